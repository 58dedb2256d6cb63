/- What Totals of package plain returns. What Length, Channels and Positions of package terms return. plain and fixed of law10. The law's own model and fixed answers of layer 11. The document's Same of layer 11, of lists that are the same; faults compared. -/
import Derived.Test.YtmcdpbnpnifdfaaGreatGm21
import Derived.Test.YtmcdpbnpnifdfaaGreatGm23
import Derived.Test.YtmcdpbnpnifdfaaGreatGm24
import Derived.Test.YtmcdpbnpnifdfaaGreatGm25
import Derived.Test.YtmcdpbnpnifdfaaGreatGm26
/- What Totals of package plain returns. -/
namespace Go.Proofs.YtmcdpbnpnifdfaaGreat
open Go.ChangeShapes Go.WideShapes Go.ChangeAt Go.RowKit
set_option linter.unusedVariables false
set_option maxRecDepth 100000 in
set_option maxHeartbeats 8000000 in
theorem totals_r (h w c lo hi ot : Int) (x : Addr) (on oc i : Nat) (O : Nat → Nat → Int) (W : World) (hM : MRow W (some x) on oc O) (hi0 : i < on) (wa : Option Addr) (lw cw : Nat) (ba : Option Addr) (lb cb : Nat)
    (hcell : ∀ q v, [.int .i64 (O i 0), .int .i64 (O i 1), .int .i64 (O i 2), .int .i64 (O i 3), .int .i64 (O i 4), .int .i64 (O i 5), .int .i64 (O i 6), .int .i64 (O i 7), .int .i64 (O i 8), .int .i64 (O i 9), .int .i64 (O i 10), .int .i64 (O i 11), .slice wa lw cw, .slice ba lb cb, .int .i64 (O i 14), .int .i64 (O i 15), .int .i64 (O i 16), .int .i64 (O i 17), .int .i64 (O i 18), .int .i64 (O i 19), .int .i64 (O i 20), .int .i64 (O i 21)][q]? = some v → W.cell? ((x.add (i * 22)).add q) = some v) (Rw : Int) (RL : List (Int × Int × Int)) (hR : gtR O h w c lo hi ot on = (0, 0, RL, Rw)) (hj0 : 0 ≤ O i 1) (hj1 : O i 1 ≤ (i : Int))
    (x0 y0 z0 H V C : Int) (hA : RL.getD (O i 1).toNat (0, 0, 0) = (x0, y0, z0)) (hB : RL.getD (i + 1) (0, 0, 0) = (H, V, C)) (rb : Bool) (hrb : rdB (O i 0) = rb) (ad : Option Addr) (n cap' : Nat) (hn9 : n ≤ 9223372036854775807) (hv0 : rb = true → vS x0 y0 z0 = true) (SS : List Int)
    (hS9 : Hid (rb = true → (n : Int) = x0 * y0 * z0 → ∀ (w' : World) (r : Nat), w'.heap[r]? = some (.cells #[.int .i64 (O i 0), .int .i64 (O i 1), .int .i64 (O i 2), .int .i64 (O i 3), .int .i64 (O i 4), .int .i64 (O i 5), .int .i64 (O i 6), .int .i64 (O i 7), .int .i64 (O i 8), .int .i64 (O i 9), .int .i64 (O i 10), .int .i64 (O i 11), .slice wa lw cw, .slice ba lb cb, .int .i64 (O i 14), .int .i64 (O i 15), .int .i64 (O i 16), .int .i64 (O i 17), .int .i64 (O i 18), .int .i64 (O i 19), .int .i64 (O i 20), .int .i64 (O i 21), .int .i64 x0, .int .i64 y0, .int .i64 z0, .int .i64 H, .int .i64 V, .int .i64 C] 58 (0, 0)) → Below W.heap.size W w' → Calls Tryz.prog 37 #[.pointer (some ⟨r, 0, none⟩), .slice ad n cap'] w' fun e w'' => (∃ v, e = .returned v ∧ Own .i64 2 w'' w'.heap.size v SS) ∧ Below w'.heap.size w' w'')) :
    Calls Tryz.prog 20 #[.agg #[.int .i64 h, .int .i64 w, .int .i64 c, .int .i64 lo, .int .i64 hi, .slice (some x) on oc, .int .i64 ot], .int .i64 ((i : Int) + 1), .slice ad n cap'] W fun e w' => (if rb = true then (if (n : Int) = x0 * y0 * z0 then ∃ v, e = .returned (.tuple #[v, .int .i64 0]) ∧ Own .i64 2 w' W.heap.size v SS else e = .returned (.tuple #[.slice none 0 0, .int .i64 70])) else e = .returned (.tuple #[.slice none 0 0, .int .i64 81])) ∧ Below W.heap.size W w' := by
  have HP0 : Hid (rb = true → ∀ W, Calls Tryz.prog 33 #[.agg #[.int .i64 x0, .int .i64 y0, .int .i64 z0]] W fun e w' => e = .returned (.int .i64 (x0 * y0 * z0)) ∧ Below W.heap.size W w') := fun q W => places_plain x0 y0 z0 W (hv0 q)
  have HP9 : Hid (rb = true → 1 ≤ x0 * y0 * z0 ∧ x0 * y0 * z0 ≤ 16384) := fun q => (vS_bd (hv0 q)).2
  obtain ⟨N, hN⟩ : ∃ N, x0 * y0 * z0 = N := ⟨_, rfl⟩
  rw [hN] at HP0 HP9 hS9 ⊢
  clear hv0 hN
  have hS : Hid (∀ W, MRow W (some x) on oc O → _) := fun W hW => shapes_any h w c lo hi ot (some x) on oc O W hW
  rw [hR] at hS
  simp only at hS
  obtain ⟨-, hRl, ho64, -, -, -⟩ := gtR_ok hR
  have hM2 : Hid (MRow W (some x) on oc O) := hM
  have hocm := hM.1
  have hocx := hM.2.1
  unfold maxLen at hocx
  have Hc : Hid (∀ q v, [.int .i64 (O i 0), .int .i64 (O i 1), .int .i64 (O i 2), .int .i64 (O i 3), .int .i64 (O i 4), .int .i64 (O i 5), .int .i64 (O i 6), .int .i64 (O i 7), .int .i64 (O i 8), .int .i64 (O i 9), .int .i64 (O i 10), .int .i64 (O i 11), .slice wa lw cw, .slice ba lb cb, .int .i64 (O i 14), .int .i64 (O i 15), .int .i64 (O i 16), .int .i64 (O i 17), .int .i64 (O i 18), .int .i64 (O i 19), .int .i64 (O i 20), .int .i64 (O i 21)][q]? = some v → W.cell? ((x.add (i * 22)).add q) = some v) := hcell
  clear hR hM hcell
  have s0 := (St.start W).new (c := #[.int .i64 h, .int .i64 w, .int .i64 c, .int .i64 lo, .int .i64 hi, .slice (some x) on oc, .int .i64 ot]) (t := 26)
  go_enter Tryz.func20, Tryz.ntmps20
  go_wp2_with fail
  refine Calls.mono (hS.out _ (hM2.out.below s0.below)) ?_
  rintro e w1 ⟨v, rfl, hSh, hb⟩
  have s1 := (s0.call hb).new (c := #[.int .i64 0, .int .i64 0, .int .i64 0]) (t := 32)
  obtain ⟨g, cap, cur, rfl, hgb, hgc, hCu⟩ : ∃ g cap cur, v = .slice (some ⟨g, 0, none⟩) (on + 1) cap ∧ W.heap.size ≤ g ∧ w1.heap[g]? = some (.cells cur 23 (0, 0)) ∧ Cu cur cap RL := by
    rcases hSh with ⟨-, q⟩ | ⟨g, cap, cur, q1, q2, q3, q4, -⟩
    · rw [q] at hRl; simp at hRl
    · exact ⟨g, cap, cur, by rw [q1, hRl], by simp at q2; omega, q3, q4⟩
  have hcap := hCu.2.1
  obtain ⟨b1, b2, b3⟩ := hCu.at (show i + 1 < RL.length by omega)
  obtain ⟨a1, a2, a3⟩ := hCu.at (show (O i 1).toNat < RL.length by omega)
  rw [hB] at b1 b2 b3
  rw [hA] at a1 a2 a3
  simp only at a1 a2 a3 b1 b2 b3
  have hgz := lt_of_heap hgc
  have hgc2 : Hid ((w1.alloc (.cells #[.int .i64 0, .int .i64 0, .int .i64 0] 32)).heap[g]? = some (.cells cur 23 (0, 0))) := (heap_alloc_old w1 _ hgz).trans hgc
  obtain ⟨c1, f1, z1, -⟩ := (s0.call hb).rules
  clear hb hSh hCu hgc hS hM2
  go_wp2
  obtain ⟨w2, hw2⟩ : ∃ w2, w1.alloc (.cells #[.int .i64 0, .int .i64 0, .int .i64 0] 32) = w2 := ⟨_, rfl⟩
  rw [hw2] at s1 hgc2 ⊢
  have hw2z : w2.heap.size = w1.heap.size + 1 := by rw [← hw2]; simp
  have S1 : Hid (St W w2 _) := s1
  have hG := s1.h2
  have HC2 : Hid (∀ q v, [.int .i64 (O i 0), .int .i64 (O i 1), .int .i64 (O i 2), .int .i64 (O i 3), .int .i64 (O i 4), .int .i64 (O i 5), .int .i64 (O i 6), .int .i64 (O i 7), .int .i64 (O i 8), .int .i64 (O i 9), .int .i64 (O i 10), .int .i64 (O i 11), .slice wa lw cw, .slice ba lb cb, .int .i64 (O i 14), .int .i64 (O i 15), .int .i64 (O i 16), .int .i64 (O i 17), .int .i64 (O i 18), .int .i64 (O i 19), .int .i64 (O i 20), .int .i64 (O i 21)][q]? = some v → w2.cell? ((x.add (i * 22)).add q) = some v) := fun q v hq => (s1.below.cell (World.block_lt_of_cell? W _ (Hc.out q v hq))).trans (Hc.out q v hq)
  clear hw2 s0 s1 c1 f1
  refine regionC (fun w' => Below w2.heap.size w2 w') (by kernel_rfl) ?_
  obtain ⟨wd, hwd⟩ : ∃ wd, w2.drew = wd := ⟨_, rfl⟩
  have hdB : Below w2.heap.size w2 wd := by rw [← hwd]; exact (Below.refl _ _).drew
  have S2 : Hid (St W wd _) := S1.out.call hdB
  rw [hwd]
  have hwz : Hid (wd.heap.size = w1.heap.size + 1) := by unfold Hid; rw [← hwd]; exact hw2z
  clear hw2z
  have HD : Hid (Below w2.heap.size w2 wd) := hdB
  clear hwd hdB
  refine takeC 0 (v := .pointer (some ⟨W.heap.size, 5, none⟩)) rfl rfl (by kernel_rfl) (by kernel_rfl) (by kernel_rfl) (fun _ _ _ h => h) (fun _ => rfl) rfl (fun w' hw' => by go_simp) ?_
  refine takeC 1 (v := .slice (some x) on oc) rfl rfl (by kernel_rfl) (by kernel_rfl) (by kernel_rfl) (fun _ _ _ h => h) (fun _ => rfl) rfl (fun w' hw' => by have hc := (cells_at ((hw'.block _ (lt_of_heap hG)).trans hG)).1 5; go_simp) ?_
  refine takeC 2 (v := .int .i64 ((i : Int) + 1)) rfl rfl (by kernel_rfl) (by kernel_rfl) (by kernel_rfl) (fun _ _ _ h => h) (fun _ => rfl) rfl (fun w' hw' => by go_simp) ?_
  refine takeC 3 (v := .int .i64 (i : Int)) rfl rfl (by kernel_rfl) (by kernel_rfl) (by kernel_rfl) (fun _ _ _ h => h) (fun _ => rfl) rfl (fun w' hw' => by go_simp; rw [IntKind.wrap_i64]; omega) ?_
  refine takeC 4 (v := .pointer (some (x.add (i * 22)))) rfl rfl (by kernel_rfl) (by kernel_rfl) (by kernel_rfl) (fun _ _ _ h => h) (fun _ => rfl) rfl (fun w' hw' => by go_simp) ?_
  refine takeC 5 (v := .agg #[.int .i64 (O i 0), .int .i64 (O i 1), .int .i64 (O i 2), .int .i64 (O i 3), .int .i64 (O i 4), .int .i64 (O i 5), .int .i64 (O i 6), .int .i64 (O i 7), .int .i64 (O i 8), .int .i64 (O i 9), .int .i64 (O i 10), .int .i64 (O i 11), .slice wa lw cw, .slice ba lb cb, .int .i64 (O i 14), .int .i64 (O i 15), .int .i64 (O i 16), .int .i64 (O i 17), .int .i64 (O i 18), .int .i64 (O i 19), .int .i64 (O i 20), .int .i64 (O i 21)]) rfl rfl (by kernel_rfl) (by kernel_rfl) (by kernel_rfl) (fun _ _ _ h => h) (fun _ => rfl) rfl (fun w' hw' => run_la 49 (.tmp 34) rfl (x.add (i * 22)) (by kernel_rfl) [.int .i64 (O i 0), .int .i64 (O i 1), .int .i64 (O i 2), .int .i64 (O i 3), .int .i64 (O i 4), .int .i64 (O i 5), .int .i64 (O i 6), .int .i64 (O i 7), .int .i64 (O i 8), .int .i64 (O i 9), .int .i64 (O i 10), .int .i64 (O i 11), .slice wa lw cw, .slice ba lb cb, .int .i64 (O i 14), .int .i64 (O i 15), .int .i64 (O i 16), .int .i64 (O i 17), .int .i64 (O i 18), .int .i64 (O i 19), .int .i64 (O i 20), .int .i64 (O i 21)] _ (fun q v hq => (hw'.cell (World.block_lt_of_cell? _ _ (HC2.out q v hq))).trans (HC2.out q v hq)) Tryz.underlying49 rfl (by kernel_rfl)) ?_
  refine takeC 6 (v := .slice (some ⟨g, 0, none⟩) (on + 1) cap) rfl rfl (by kernel_rfl) (by kernel_rfl) (by kernel_rfl) (fun _ _ _ h => h) (fun _ => rfl) rfl (fun w' hw' => by go_simp) ?_
  refine takeC 7 (v := .int .i64 ((i : Int) + 1)) rfl rfl (by kernel_rfl) (by kernel_rfl) (by kernel_rfl) (fun _ _ _ h => h) (fun _ => rfl) rfl (fun w' hw' => by go_simp) ?_
  refine takeC 8 (v := .pointer (some ⟨g, (i + 1) * 3, none⟩)) rfl rfl (by kernel_rfl) (by kernel_rfl) (by kernel_rfl) (fun _ _ _ h => h) (fun _ => rfl) rfl (fun w' hw' => by go_simp; intro q; omega) ?_
  refine takeC 9 (v := .agg #[.int .i64 H, .int .i64 V, .int .i64 C]) rfl rfl (by kernel_rfl) (by kernel_rfl) (by kernel_rfl) (fun _ _ _ h => h) (fun _ => rfl) rfl (fun w' hw' => run_la 23 (.tmp 38) rfl ⟨g, (i + 1) * 3, none⟩ (by kernel_rfl) [.int .i64 H, .int .i64 V, .int .i64 C] _ (three_at ((hw'.block _ (lt_of_heap hgc2.out)).trans hgc2.out) b1 b2 b3) Tryz.underlying23 rfl (by kernel_rfl)) ?_
  refine takeC 10 (v := .agg #[.int .i64 (O i 0), .int .i64 (O i 1), .int .i64 (O i 2), .int .i64 (O i 3), .int .i64 (O i 4), .int .i64 (O i 5), .int .i64 (O i 6), .int .i64 (O i 7), .int .i64 (O i 8), .int .i64 (O i 9), .int .i64 (O i 10), .int .i64 (O i 11), .slice wa lw cw, .slice ba lb cb, .int .i64 (O i 14), .int .i64 (O i 15), .int .i64 (O i 16), .int .i64 (O i 17), .int .i64 (O i 18), .int .i64 (O i 19), .int .i64 (O i 20), .int .i64 (O i 21), .int .i64 0, .int .i64 0, .int .i64 0, .int .i64 H, .int .i64 V, .int .i64 C]) rfl rfl (by kernel_rfl) (by kernel_rfl) (by kernel_rfl) (fun _ _ _ h => h) (fun _ => rfl) rfl (fun w' hw' => by kernel_rfl) ?_
  refine stepC 11 HD.out (by kernel_rfl) rfl (fun K hK => step_wp rfl ?_)
  go_simp
  refine hK _ _ ?_
  clear hK K
  have HA : Hid (Below w2.heap.size w2 (wd.alloc (.cells #[.int .i64 0, .int .i64 0, .int .i64 0, .int .i64 0, .int .i64 0, .int .i64 0, .int .i64 0, .int .i64 0, .int .i64 0, .int .i64 0, .int .i64 0, .int .i64 0, .slice none 0 0, .slice none 0 0, .int .i64 0, .int .i64 0, .int .i64 0, .int .i64 0, .int .i64 0, .int .i64 0, .int .i64 0, .int .i64 0, .int .i64 0, .int .i64 0, .int .i64 0, .int .i64 0, .int .i64 0, .int .i64 0] 58))) := HD.out.alloc HD.out.size _
  refine stepC 12 HA.out (by kernel_rfl) rfl (fun K hK => step_wp rfl (wp_store_row 58 (.tmp 10) (.tmp 40) rfl wd.heap.size #[.int .i64 (O i 0), .int .i64 (O i 1), .int .i64 (O i 2), .int .i64 (O i 3), .int .i64 (O i 4), .int .i64 (O i 5), .int .i64 (O i 6), .int .i64 (O i 7), .int .i64 (O i 8), .int .i64 (O i 9), .int .i64 (O i 10), .int .i64 (O i 11), .slice wa lw cw, .slice ba lb cb, .int .i64 (O i 14), .int .i64 (O i 15), .int .i64 (O i 16), .int .i64 (O i 17), .int .i64 (O i 18), .int .i64 (O i 19), .int .i64 (O i 20), .int .i64 (O i 21), .int .i64 0, .int .i64 0, .int .i64 0, .int .i64 H, .int .i64 V, .int .i64 C] (by kernel_rfl) (by kernel_rfl) 58 #[.int .i64 0, .int .i64 0, .int .i64 0, .int .i64 0, .int .i64 0, .int .i64 0, .int .i64 0, .int .i64 0, .int .i64 0, .int .i64 0, .int .i64 0, .int .i64 0, .slice none 0 0, .slice none 0 0, .int .i64 0, .int .i64 0, .int .i64 0, .int .i64 0, .int .i64 0, .int .i64 0, .int .i64 0, .int .i64 0, .int .i64 0, .int .i64 0, .int .i64 0, .int .i64 0, .int .i64 0, .int .i64 0] (heap_alloc_new wd _) (by kernel_rfl) rfl (by simp [Value.oneCell']) (hK _ _ ?_)))
  rw [World.setRow_alloc_new]
  refine doneC (HD.out.alloc HD.out.size _) (by kernel_rfl) ?_ _
  have s3 := S2.out.new (c := #[.int .i64 (O i 0), .int .i64 (O i 1), .int .i64 (O i 2), .int .i64 (O i 3), .int .i64 (O i 4), .int .i64 (O i 5), .int .i64 (O i 6), .int .i64 (O i 7), .int .i64 (O i 8), .int .i64 (O i 9), .int .i64 (O i 10), .int .i64 (O i 11), .slice wa lw cw, .slice ba lb cb, .int .i64 (O i 14), .int .i64 (O i 15), .int .i64 (O i 16), .int .i64 (O i 17), .int .i64 (O i 18), .int .i64 (O i 19), .int .i64 (O i 20), .int .i64 (O i 21), .int .i64 0, .int .i64 0, .int .i64 0, .int .i64 H, .int .i64 V, .int .i64 C]) (t := 58)
  have hgc3 : Hid ((wd.alloc (.cells #[.int .i64 (O i 0), .int .i64 (O i 1), .int .i64 (O i 2), .int .i64 (O i 3), .int .i64 (O i 4), .int .i64 (O i 5), .int .i64 (O i 6), .int .i64 (O i 7), .int .i64 (O i 8), .int .i64 (O i 9), .int .i64 (O i 10), .int .i64 (O i 11), .slice wa lw cw, .slice ba lb cb, .int .i64 (O i 14), .int .i64 (O i 15), .int .i64 (O i 16), .int .i64 (O i 17), .int .i64 (O i 18), .int .i64 (O i 19), .int .i64 (O i 20), .int .i64 (O i 21), .int .i64 0, .int .i64 0, .int .i64 0, .int .i64 H, .int .i64 V, .int .i64 C] 58)).heap[g]? = some (.cells cur 23 (0, 0))) := ((HD.out.alloc HD.out.size _).block g (lt_of_heap hgc2.out)).trans hgc2.out
  obtain ⟨w4, hw4⟩ : ∃ w4, wd.alloc (.cells #[.int .i64 (O i 0), .int .i64 (O i 1), .int .i64 (O i 2), .int .i64 (O i 3), .int .i64 (O i 4), .int .i64 (O i 5), .int .i64 (O i 6), .int .i64 (O i 7), .int .i64 (O i 8), .int .i64 (O i 9), .int .i64 (O i 10), .int .i64 (O i 11), .slice wa lw cw, .slice ba lb cb, .int .i64 (O i 14), .int .i64 (O i 15), .int .i64 (O i 16), .int .i64 (O i 17), .int .i64 (O i 18), .int .i64 (O i 19), .int .i64 (O i 20), .int .i64 (O i 21), .int .i64 0, .int .i64 0, .int .i64 0, .int .i64 H, .int .i64 V, .int .i64 C] 58) = w4 := ⟨_, rfl⟩
  rw [hw4] at s3 hgc3 ⊢
  have S3 : Hid (St W w4 _) := s3
  obtain ⟨c1, f1, z1, -⟩ := s3.rules
  clear hw4 S1 S2 HD HA hgc2 HC2 Hc s3 hG
  go_wp2_with fail
  refine (red_any _ _).mono ?_
  rintro e w' ⟨rfl, hw'⟩
  have hw'' := hw'.symm
  subst hw''
  rw [hrb]
  have hz : w1.heap.size < wd.heap.size := by have := hwz.out; omega
  have z0' : Hid (W.heap.size ≤ wd.heap.size) := (S3.out.2 _ List.mem_cons_self).2
  cases rb with
  | false =>
    clear c1 f1
    go_wp2
    exact bodyPost_ret (v := .tuple #[.slice none 0 0, .int .i64 81]) (by simp [results, Tryz.results20, go_sem]) rfl ⟨by simp, S3.out.below⟩
  | true =>
    have a1' : w4.cell? ⟨g, (O i 1).toNat * 3, none⟩ = some (.int .i64 x0) := by rw [(cells_at hgc3.out).1]; exact a1
    have a2' : w4.cell? ⟨g, (O i 1).toNat * 3 + 1, none⟩ = some (.int .i64 y0) := by rw [(cells_at hgc3.out).1]; exact a2
    have a3' : w4.cell? ⟨g, (O i 1).toNat * 3 + 2, none⟩ = some (.int .i64 z0) := by rw [(cells_at hgc3.out).1]; exact a3
    clear a1 a2 a3 b1 b2 b3
    go_upto_region 10 with fail
    have hR1 : (((w4.setCell ⟨wd.heap.size, 22, none⟩ (.int .i64 x0)).setCell ⟨wd.heap.size, 23, none⟩ (.int .i64 y0)).setCell ⟨wd.heap.size, 24, none⟩ (.int .i64 z0)).heap[wd.heap.size]? = some (.cells #[.int .i64 (O i 0), .int .i64 (O i 1), .int .i64 (O i 2), .int .i64 (O i 3), .int .i64 (O i 4), .int .i64 (O i 5), .int .i64 (O i 6), .int .i64 (O i 7), .int .i64 (O i 8), .int .i64 (O i 9), .int .i64 (O i 10), .int .i64 (O i 11), .slice wa lw cw, .slice ba lb cb, .int .i64 (O i 14), .int .i64 (O i 15), .int .i64 (O i 16), .int .i64 (O i 17), .int .i64 (O i 18), .int .i64 (O i 19), .int .i64 (O i 20), .int .i64 (O i 21), .int .i64 x0, .int .i64 y0, .int .i64 z0, .int .i64 H, .int .i64 V, .int .i64 C] 58 (0, 0)) := heap_setCell_at (heap_setCell_at (heap_setCell_at S3.out.h1))
    have hB1 : Hid (Below W.heap.size W (((w4.setCell ⟨wd.heap.size, 22, none⟩ (.int .i64 x0)).setCell ⟨wd.heap.size, 23, none⟩ (.int .i64 y0)).setCell ⟨wd.heap.size, 24, none⟩ (.int .i64 z0))) := ((S3.out.below.setCell (p := ⟨wd.heap.size, 22, none⟩) (by show W.heap.size ≤ wd.heap.size; have := z0'.out; omega) _).setCell (p := ⟨wd.heap.size, 23, none⟩) (by show W.heap.size ≤ wd.heap.size; have := z0'.out; omega) _).setCell (p := ⟨wd.heap.size, 24, none⟩) (by show W.heap.size ≤ wd.heap.size; have := z0'.out; omega) _
    obtain ⟨w5, hw5⟩ : ∃ w5, ((w4.setCell ⟨wd.heap.size, 22, none⟩ (.int .i64 x0)).setCell ⟨wd.heap.size, 23, none⟩ (.int .i64 y0)).setCell ⟨wd.heap.size, 24, none⟩ (.int .i64 z0) = w5 := ⟨_, rfl⟩
    rw [hw5] at hR1 hB1 ⊢
    obtain ⟨r, hr⟩ : ∃ r, wd.heap.size = r := ⟨_, rfl⟩
    rw [hr] at hR1 ⊢
    have HR1 : Hid (w5.heap[r]? = some (.cells #[.int .i64 (O i 0), .int .i64 (O i 1), .int .i64 (O i 2), .int .i64 (O i 3), .int .i64 (O i 4), .int .i64 (O i 5), .int .i64 (O i 6), .int .i64 (O i 7), .int .i64 (O i 8), .int .i64 (O i 9), .int .i64 (O i 10), .int .i64 (O i 11), .slice wa lw cw, .slice ba lb cb, .int .i64 (O i 14), .int .i64 (O i 15), .int .i64 (O i 16), .int .i64 (O i 17), .int .i64 (O i 18), .int .i64 (O i 19), .int .i64 (O i 20), .int .i64 (O i 21), .int .i64 x0, .int .i64 y0, .int .i64 z0, .int .i64 H, .int .i64 V, .int .i64 C] 58 (0, 0))) := hR1
    have HP : Hid (∀ W, Calls Tryz.prog 33 #[.agg #[.int .i64 x0, .int .i64 y0, .int .i64 z0]] W fun e w' => e = .returned (.int .i64 N) ∧ Below W.heap.size W w') := HP0.out (by simp)
    have p9 := HP9.out (by simp)
    clear hw5 hr c1 f1 a1' a2' a3' S3 hgc3 hwz hz hR1 HP0 HP9
    obtain ⟨c1, f1, z1'⟩ := cells_at HR1.out
    go_wp2_with fail
    refine (HP.out _).mono ?_
    rintro e w6 ⟨rfl, hb6⟩
    have HB6 : Hid (Below W.heap.size W w6) := btr hB1.out hb6
    have HR6 : Hid (w6.heap[r]? = some (.cells #[.int .i64 (O i 0), .int .i64 (O i 1), .int .i64 (O i 2), .int .i64 (O i 3), .int .i64 (O i 4), .int .i64 (O i 5), .int .i64 (O i 6), .int .i64 (O i 7), .int .i64 (O i 8), .int .i64 (O i 9), .int .i64 (O i 10), .int .i64 (O i 11), .slice wa lw cw, .slice ba lb cb, .int .i64 (O i 14), .int .i64 (O i 15), .int .i64 (O i 16), .int .i64 (O i 17), .int .i64 (O i 18), .int .i64 (O i 19), .int .i64 (O i 20), .int .i64 (O i 21), .int .i64 x0, .int .i64 y0, .int .i64 z0, .int .i64 H, .int .i64 V, .int .i64 C] 58 (0, 0))) := (hb6.block r (lt_of_heap HR1.out)).trans HR1.out
    clear hb6 c1 f1 z1' HR1 hB1 HP
    by_cases hnN : (n : Int) = N
    · have hS8 : Hid _ := hS9.out (by simp) hnN w6 r HR6.out HB6.out
      have hnN' : Hid ((n : Int) = N) := hnN
      have hq : ((n : Int) == N) = true := by simp [hnN]
      have hq2 : ((n : Int) != N) = false := by simp [hnN]
      clear hS9 hnN
      go_wp2_with fail
      refine Calls.mono hS8.out ?_
      rintro e w7 ⟨⟨v, rfl, hO⟩, hb7⟩
      have HO : Hid (Own .i64 2 w7 W.heap.size v SS) := hO.base HB6.out.size
      have HB7 : Hid (Below W.heap.size W w7) := btr HB6.out hb7
      clear hO hb7
      go_wp2
      exact bodyPost_ret (v := .tuple #[v, .int .i64 0]) (by simp [results, Tryz.results20, go_sem]) rfl ⟨by first | exact ⟨_, rfl, HO.out⟩ | (rw [if_pos hnN'.out]; exact ⟨_, rfl, HO.out⟩) | (rw [if_pos rfl, if_pos hnN'.out]; exact ⟨_, rfl, HO.out⟩), HB7.out⟩
    · have hnN' : Hid (¬ (n : Int) = N) := hnN
      have hq : ((n : Int) == N) = false := by simp [hnN]
      clear hS9
      go_wp2
      exact bodyPost_ret (v := .tuple #[.slice none 0 0, .int .i64 70]) (by simp [results, Tryz.results20, go_sem]) rfl ⟨rfl, HB6.out⟩
/-- The error of Totals. -/
def toE (O : Nat → Nat → Int) (h w c lo hi ot : Int) (on : Nat) (op : Int) (n x0 y0 z0 : Int) : Int := if fiE O h w c lo hi ot on op ≠ 0 then fiE O h w c lo hi ot on op else if n = x0 * y0 * z0 then 0 else 70
/-- An op that is there: the sums, or ErrLens. -/
theorem totals_ok (h w c lo hi ot : Int) (oa : Option Addr) (on oc : Nat) (O : Nat → Nat → Int) (Z B : Nat → List Int) (W : World) (hL : LRow W oa on oc O Z B) (RL : List (Int × Int × Int)) (Rw : Int) (hR : gtR O h w c lo hi ot on = (0, 0, RL, Rw))
    (i : Nat) (x : Addr) (wa : Option Addr) (lw cw : Nat) (ba : Option Addr) (lb cb : Nat) (x0 y0 z0 H V C : Int) (hF : Fnd W oa on O Z B RL i x wa lw cw ba lb cb x0 y0 z0 H V C) (ad : Option Addr) (n cap' : Nat) (xs : List Int) (hX : IRow .i8 W ad n cap' xs) :
    Calls Tryz.prog 20 #[.agg #[.int .i64 h, .int .i64 w, .int .i64 c, .int .i64 lo, .int .i64 hi, .slice oa on oc, .int .i64 ot], .int .i64 ((i : Int) + 1), .slice ad n cap'] W fun e w' => (if (n : Int) = x0 * y0 * z0 then ∃ v, e = .returned (.tuple #[v, .int .i64 0]) ∧ Own .i64 2 w' W.heap.size v (suL (O i 0) (O i 4) (O i 5) (O i 6) (O i 7) (O i 8) (O i 9) (O i 10) (O i 11) x0 y0 z0 C (O i 19) (Z i) (B i) xs (H * V * C).toNat) else e = .returned (.tuple #[.slice none 0 0, .int .i64 70])) ∧ Below W.heap.size W w' := by
  obtain ⟨h1, rfl, h3, h4, h5, h6, h7, h8, h9, h10, h11, h12⟩ := hF
  obtain ⟨ja, jb, e1, hja, e3, hjb, hO⟩ := opd_of hR h1
  obtain ⟨hOpd, -⟩ := hO x0 y0 z0 H V C (by rw [← h8, e1, Int.toNat_natCast]) h9
  rw [h3, h4, Int.toNat_natCast, Int.toNat_natCast] at hOpd
  have hk := of_decide_eq_true h12
  obtain ⟨wa', lw', cw', ba', lb', cb', e12, e13, -, -, -, hlw, hlb⟩ := hL.2.2.2 x rfl i h1
  have elw : lw' = lw := by omega
  have elb : lb' = lb := by omega
  subst elw elb
  have hcm := hX.2.2.1
  have hcc := hX.2.1
  unfold maxLen at hcm
  refine (totals_r h w c lo hi ot x on oc i O W hL.m h1 wa lw' cw ba lb' cb h5 Rw RL hR h11.1 h11.2 _ _ _ _ _ _ h8 h9 true h12 ad n cap' (by omega) (fun _ => hOpd.hA) (suL (O i 0) (O i 4) (O i 5) (O i 6) (O i 7) (O i 8) (O i 9) (O i 10) (O i 11) x0 y0 z0 C (O i 19) (Z i) (B i) xs (H * V * C).toNat) (fun _ hn w' r hr hb => sums_any (O i 0) (O i 1) (O i 2) (O i 3) (O i 4) (O i 5) (O i 6) (O i 7) (O i 8) (O i 9) (O i 10) (O i 11) wa lw' cw ba lb' cb (O i 14) (O i 15) (O i 16) (O i 17) (O i 18) (O i 19) (O i 20) (O i 21) x0 y0 z0 H V C r w' hr hOpd hk.2 (Z i) (B i) (h6.below hb) (h7.below hb) hlw hlb ad n cap' xs (hX.below hb) hn)).mono ?_
  rintro e w' ⟨q1, q2⟩
  exact ⟨by simpa using q1, q2⟩
end Go.Proofs.YtmcdpbnpnifdfaaGreat

/- What Length, Channels and Positions of package terms return. -/
namespace Go.Proofs.YtmcdpbnpnifdfaaGreat
open Go.ChangeShapes Go.WideShapes Go.ChangeAt Go.RowKit
set_option linter.unusedVariables false
end Go.Proofs.YtmcdpbnpnifdfaaGreat

/- plain and fixed of law10. -/
namespace Go.Proofs.YtmcdpbnpnifdfaaGreat
open Go.ChangeShapes Go.WideShapes Go.ChangeAt Go.RowKit
set_option linter.unusedVariables false
def plZ (_ : Nat) : List Int := [3, -2]
def plB (_ : Nat) : List Int := [1]
theorem irow_blk {k : IntKind} {w : World} {b : Nat} {T : TypeId} (zs : List Int) (h : w.heap[b]? = some (.cells (zs.map (Value.int k)).toArray T (0, 0))) (hw : ∀ z ∈ zs, (Lit.int k z).wf = true) (hm : zs.length ≤ 1000) : IRow k w (some ⟨b, 0, none⟩) zs.length zs.length zs := by
  refine ⟨rfl, Nat.le_refl _, by unfold maxLen; omega, hw, fun h => (by cases h), fun x hx i hi => ?_⟩
  cases hx
  rw [Addr.add_lit, Nat.zero_add, (cells_at h).1]
  simp [List.getD, hi]
theorem pl_lrow {w : World} {g p q : Nat} (h : w.heap[g]? = some (.cells #[.int .i64 1, .int .i64 0, .int .i64 0, .int .i64 1, .int .i64 0, .int .i64 0, .int .i64 0, .int .i64 0, .int .i64 0, .int .i64 0, .int .i64 0, .int .i64 0, .slice (some ⟨p, 0, none⟩) 2 2, .slice (some ⟨q, 0, none⟩) 1 1, .int .i64 1, .int .i64 0, .int .i64 0, .int .i64 0, .int .i64 0, .int .i64 0, .int .i64 (-128), .int .i64 127] 49 (0, 0))) (hp : w.heap[p]? = some (.cells #[.int .i16 3, .int .i16 (-2)] 86 (0, 0))) (hq : w.heap[q]? = some (.cells #[.int .i32 1] 21 (0, 0))) : LRow w (some ⟨g, 0, none⟩) 1 1 (plO 0) plZ plB := by
  refine ⟨Nat.le_refl _, by unfold maxLen; omega, fun h => (by cases h), fun x hx i hi => ?_⟩
  cases hx
  obtain rfl : i = 0 := by omega
  refine ⟨some ⟨p, 0, none⟩, 2, 2, some ⟨q, 0, none⟩, 1, 1, rfl, rfl, fun j v hj => ?_, irow_blk [3, -2] hp (fun z hz => ?_) (by simp), irow_blk [1] hq (fun z hz => ?_) (by simp), by omega, by omega⟩
  · rw [Nat.zero_mul, Addr.add_lit, Addr.add_lit, (cells_at h).1, ← hj]
    simp [opl, plO]
  · simp only [List.mem_cons, List.not_mem_nil, or_false] at hz
    rcases hz with rfl | rfl <;> rfl
  · simp only [List.mem_cons, List.not_mem_nil, or_false] at hz
    subst hz; rfl
theorem pl_found {W : World} {g : Nat} (hL : LRow W (some ⟨g, 0, none⟩) 1 1 (plO 0) plZ plB) : ∃ wa lw cw ba lb cb, Fnd W (some ⟨g, 0, none⟩) 1 (plO 0) plZ plB [(1, 1, 2), (1, 1, 1)] 0 ⟨g, 0, none⟩ wa lw cw ba lb cb 1 1 2 1 1 1 := by
  obtain ⟨RL, Rw, hR, i, x, wa, lw, cw, ba, lb, cb, x0, y0, z0, H, V, C, hop, hF⟩ := found 1 1 2 (-128) 127 1 (some ⟨g, 0, none⟩) 1 1 (plO 0) plZ plB W hL 1 (fiE_0 (i := 0) (by rw [pl_0]) (by omega) (by decide))
  obtain rfl : i = 0 := by omega
  rw [pl_0] at hR
  simp only [Prod.mk.injEq, true_and] at hR
  obtain ⟨rfl, -⟩ := hR
  have h8 := hF.2.2.2.2.2.2.2.1
  have h9 := hF.2.2.2.2.2.2.2.2.1
  have h2 := hF.2.1
  simp only [plO, List.getD, List.getElem?_cons_zero, List.getElem?_cons_succ, Option.getD_some, Int.toNat_zero, Prod.mk.injEq, Nat.zero_add] at h8 h9
  obtain ⟨rfl, rfl, rfl⟩ := h8
  obtain ⟨rfl, rfl, rfl⟩ := h9
  simp only [Option.some.injEq] at h2
  subst h2
  exact ⟨wa, lw, cw, ba, lb, cb, hF⟩
end Go.Proofs.YtmcdpbnpnifdfaaGreat

/- The law's own model and fixed answers of layer 11. -/
namespace Go.Proofs.YtmcdpbnpnifdfaaGreat
open Go.ChangeShapes Go.WideShapes Go.ChangeAt Go.RowKit
set_option linter.unusedVariables false
theorem one11_any (W : World) :
    Calls Tryz.prog 19 #[] W fun e w' => ∃ g : Nat, e = .returned (.agg #[.int .i64 1, .int .i64 1, .int .i64 2, .int .i64 (-128), .int .i64 127, .slice (some ⟨g, 0, none⟩) 1 1, .int .i64 1]) ∧ LRow w' (some ⟨g, 0, none⟩) 1 1 (plO 0) plZ plB ∧ Below W.heap.size W w' := by
  go_enter Tryz.func19, Tryz.ntmps19
  go_wp2
  have s1 := (((St.start W).new (c := #[.int .i64 1, .int .i64 1, .int .i64 2, .int .i64 (-128), .int .i64 127, .slice (some ⟨W.heap.size + 1 + 1 + 1, 0, none⟩) 1 1, .int .i64 1]) (t := 26)).new (c := #[.int .i16 3, .int .i16 (-2)]) (t := 86)).new (c := #[.int .i32 1]) (t := 21)
  simp only [World.size_alloc] at s1
  have s2 := s1.new (c := #[.int .i64 1, .int .i64 0, .int .i64 0, .int .i64 1, .int .i64 0, .int .i64 0, .int .i64 0, .int .i64 0, .int .i64 0, .int .i64 0, .int .i64 0, .int .i64 0, .slice (some ⟨W.heap.size + 1, 0, none⟩) 2 2, .slice (some ⟨W.heap.size + 1 + 1, 0, none⟩) 1 1, .int .i64 1, .int .i64 0, .int .i64 0, .int .i64 0, .int .i64 0, .int .i64 0, .int .i64 (-128), .int .i64 127]) (t := 49)
  simp only [World.size_alloc] at s2
  exact bodyPost_ret (v := .agg #[.int .i64 1, .int .i64 1, .int .i64 2, .int .i64 (-128), .int .i64 127, .slice (some ⟨W.heap.size + 1 + 1 + 1, 0, none⟩) 1 1, .int .i64 1]) (by simp [results, Tryz.results19, go_sem]) rfl ⟨W.heap.size + 1 + 1 + 1, rfl, pl_lrow (p := W.heap.size + 1) (q := W.heap.size + 1 + 1) s2.h1 s2.h3 s2.h2, s2.below⟩
theorem irow_new (w : World) (zs : List Int) (hw : ∀ z ∈ zs, I8 z) (hm : zs.length ≤ 1000) : IRow .i8 (w.alloc (.cells (zs.map (Value.int .i8)).toArray 41)) (some ⟨w.heap.size, 0, none⟩) zs.length zs.length zs := irow_blk zs (heap_alloc_new w _) (fun z hz => mk_i8 (hw z hz)) hm
theorem fx_tn : tnA (plO 0) plZ plB [(1, 1, 2), (1, 1, 1)] [10, 5] 1 = [21] := by decide
theorem fx_su : suL (plO 0 0 0) (plO 0 0 4) (plO 0 0 5) (plO 0 0 6) (plO 0 0 7) (plO 0 0 8) (plO 0 0 9) (plO 0 0 10) (plO 0 0 11) 1 1 2 1 (plO 0 0 19) (plZ 0) (plB 0) [100, -100] ((1 : Int) * 1 * 1).toNat = [501] := by decide
set_option maxHeartbeats 4000000 in
set_option maxRecDepth 100000 in
theorem fixed11_any (W : World) : Calls Tryz.prog 9 #[] W fun e w' => e = .returned (.bool true) ∧ Below W.heap.size W w' := by
  go_enter Tryz.func9, Tryz.ntmps9
  go_wp2_with fail
  refine (one11_any _).mono ?_
  rintro e w1 ⟨g, rfl, hL, b1⟩
  go_wp2_with fail
  refine (eval_ok 1 1 2 (-128) 127 1 (some ⟨g, 0, none⟩) 1 1 (plO 0) plZ plB _ (hL.below (bal _ _)) _ 2 2 [10, 5] (irow_new w1 [10, 5] (by unfold I8; decide) (by decide)) _ _ pl_0 (by decide) 1 rfl (by decide)).mono ?_
  rintro e w2 ⟨⟨v, rfl, hO⟩, b2⟩
  rw [fx_tn] at hO
  obtain ⟨va, vc, rfl, hrow, -⟩ := hO.row
  have D2 : Hid (Below W.heap.size W w2) := bt b1 (bt (bal _ _) b2)
  obtain ⟨xa, u, rfl, hu, -, huz, -⟩ := hrow.at (show 0 < [(21 : Int)].length by decide)
  simp only [List.getElem?_cons_zero, Option.some.injEq] at huz
  subst huz
  have C2 : Hid (w2.cell? (xa.add 0) = some (.int .i8 21)) := hu
  have s2 := ((St.start W).call D2.out).new (c := #[.int .i64 0, .int .i64 0, .int .i64 0]) (t := 32)
  clear hO hrow hu b1 b2 hL
  go_upto_region 2 with fail
  have C2' : Hid ((w2.alloc (.cells #[.int .i64 0, .int .i64 0, .int .i64 0] 32)).cell? (xa.add 0) = some (.int .i8 21)) := ((bal w2 _).cell (World.block_lt_of_cell? w2 _ C2.out)).trans C2.out
  obtain ⟨bf, hbf⟩ : ∃ bf, w2.heap.size = bf := ⟨_, rfl⟩
  obtain ⟨w3, hw3⟩ : ∃ w3, w2.alloc (.cells #[.int .i64 0, .int .i64 0, .int .i64 0] 32) = w3 := ⟨_, rfl⟩
  rw [hw3] at s2 C2' ⊢
  rw [hbf] at s2 ⊢
  have S3 : Hid (St W w3 [(bf, #[.int .i64 0, .int .i64 0, .int .i64 0], 32)]) := s2
  clear hw3 hbf s2 C2 D2
  go_wp2_with fail
  refine (one11_any _).mono ?_
  rintro e w4 ⟨g4, rfl, hL, b4⟩
  obtain ⟨wa, lw, cw, ba, lb, cb, hF⟩ := pl_found hL
  go_wp2_with fail
  refine (totals_ok 1 1 2 (-128) 127 1 (some ⟨g4, 0, none⟩) 1 1 (plO 0) plZ plB _ (hL.below (bal _ _)) _ _ pl_0 0 ⟨g4, 0, none⟩ wa lw cw ba lb cb 1 1 2 1 1 1 (hF.below (bal _ _)) _ 2 2 [100, -100] (irow_new w4 [100, -100] (by unfold I8; decide) (by decide))).mono ?_
  rintro e w5 ⟨hif, b5⟩
  rw [if_pos (by decide), fx_su] at hif
  obtain ⟨v, rfl, hO⟩ := hif
  obtain ⟨vb, vd, rfl, hrow, -⟩ := hO.row
  obtain ⟨xb, u, rfl, hu, -, huz, -⟩ := hrow.at (show 0 < [(501 : Int)].length by decide)
  simp only [List.getElem?_cons_zero, Option.some.injEq] at huz
  subst huz
  have B5 : Hid (Below w3.heap.size w3 w5) := bt b4 (bt (bal _ _) b5)
  have S5 : Hid (St W w5 [(bf, #[.int .i64 0, .int .i64 0, .int .i64 0], 32)]) := S3.out.call B5.out
  have C5 : Hid (w5.cell? (xa.add 0) = some (.int .i8 21)) := (B5.out.cell (World.block_lt_of_cell? w3 _ C2'.out)).trans C2'.out
  have E5 : Hid (w5.cell? (xb.add 0) = some (.int .i64 501)) := hu
  clear hO hrow hu b4 b5 hL hF S3 C2'
  go_wp2_with fail
  refine (one11_any _).mono ?_
  rintro e w6 ⟨g6, rfl, hL, b6⟩
  go_wp2_with fail
  refine (eval_bad 1 1 2 (-128) 127 1 (some ⟨g6, 0, none⟩) 1 1 _ _ 1 1 220 0 (by decide) (fun W' hb => tensors_in 1 1 2 (-128) 127 1 (some ⟨g6, 0, none⟩) 1 1 (plO 0) plZ plB W' ((hL.below (bal _ _)).below hb) _ 1 1 [10] ((irow_new w6 [10] (by unfold I8; decide) (by decide)).below hb) _ _ pl_0 (by decide))).mono ?_
  rintro e w7 ⟨rfl, b7⟩
  have B7 : Hid (Below w5.heap.size w5 (w7.alloc (.cells #[.int .i64 220, .int .i64 0, .int .i64 0] 32))) := bt b6 (bt (bal _ _) (bt b7 (bal _ _)))
  have s8 := (S5.out.call B7.out)
  have C8 : Hid ((w7.alloc (.cells #[.int .i64 220, .int .i64 0, .int .i64 0] 32)).cell? (xa.add 0) = some (.int .i8 21)) := (B7.out.cell (World.block_lt_of_cell? w5 _ C5.out)).trans C5.out
  have E8 : Hid ((w7.alloc (.cells #[.int .i64 220, .int .i64 0, .int .i64 0] 32)).cell? (xb.add 0) = some (.int .i64 501)) := (B7.out.cell (World.block_lt_of_cell? w5 _ E5.out)).trans E5.out
  have h8 := heap_alloc_new w7 (.cells #[.int .i64 220, .int .i64 0, .int .i64 0] 32)
  clear hL b6 b7 C5 E5 S5
  go_upto_region 4 with fail
  obtain ⟨bg, hbg⟩ : ∃ bg, w7.heap.size = bg := ⟨_, rfl⟩
  obtain ⟨w8, hw8⟩ : ∃ w8, w7.alloc (.cells #[.int .i64 220, .int .i64 0, .int .i64 0] 32) = w8 := ⟨_, rfl⟩
  rw [hw8] at s8 C8 E8 h8 ⊢
  rw [hbg] at h8 ⊢
  clear hw8 hbg B7
  obtain ⟨c1, f1, z1, -⟩ := s8.rules
  obtain ⟨c2, f2, z2⟩ := cells_at h8
  have h1 : w8.cell? xa = some (.int .i8 21) := by have := C8.out; rwa [Addr.add_zero'] at this
  have h2 : w8.cell? xb = some (.int .i64 501) := by have := E8.out; rwa [Addr.add_zero'] at this
  have D8 : Hid (Below W.heap.size W w8) := s8.below
  clear s8 h8
  go_wp2
  go_ret
  exact ⟨rfl, D8.out⟩
end Go.Proofs.YtmcdpbnpnifdfaaGreat

/- The document's Same of layer 11, of lists that are the same; faults compared. -/
namespace Go.Proofs.YtmcdpbnpnifdfaaGreat
open Go.ChangeShapes Go.WideShapes Go.ChangeAt Go.RowKit
set_option linter.unusedVariables false
set_option maxHeartbeats 1000000 in
theorem same8_any (a b : Option Addr) (n ca cb : Nat) (xs : List Int) (W : World) (ha : IRow .i8 W a n ca xs) (hb : IRow .i8 W b n cb xs) :
    Calls Tryz.prog 11 #[.slice a n ca, .slice b n cb] W fun e w' => e = .returned (.bool true) ∧ ∃ q, w' = W.drewN q := by
  have HA : Hid (IRow .i8 W a n ca xs) := ha
  have HB : Hid (IRow .i8 W b n cb xs) := hb
  have h1 := ha.2.1
  have h2 := ha.2.2.1
  have h3 := hb.2.1
  have h4 := hb.2.2.1
  unfold maxLen at h2 h4
  clear ha hb
  go_enter Tryz.func11, Tryz.ntmps11
  go_wp2
  go_loopw [13] (fun i wr => ∃ k q : Nat, k ≤ n ∧ i = .int .i64 k ∧ wr = W.drewN q) (fun i _ => n - (intOf i).toNat)
  case atStart => exact ⟨0, 0, Nat.zero_le _, rfl, rfl⟩
  case round =>
    obtain ⟨k, q, hk, rfl, rfl⟩ := hrel
    by_cases hlt : k < n
    · obtain ⟨x1, u, rfl, hu, hw, hz, -⟩ := HA.out.at hlt
      obtain ⟨x2, u', rfl, hu', -, hz', -⟩ := HB.out.at hlt
      obtain rfl : u = u' := by rw [hz] at hz'; exact Option.some.inj hz'
      clear hz hz' hw
      go_wp2
      go_quiet (fail)
      go_wp2
      go_roundw
      case rel => exact ⟨k + 1, _, by omega, by go_num, rfl⟩
      case measure => simp [intOf]; omega
    · go_wp2
      go_ret
      exact ⟨rfl, _, rfl⟩
theorem same8_b (a b : Option Addr) (n ca cb : Nat) (xs : List Int) (W : World) (ha : IRow .i8 W a n ca xs) (hb : IRow .i8 W b n cb xs) :
    Calls Tryz.prog 11 #[.slice a n ca, .slice b n cb] W fun e w' => e = .returned (.bool true) ∧ Below W.heap.size W w' :=
  (same8_any a b n ca cb xs W ha hb).mono fun e w' ⟨h, q, hq⟩ => ⟨h, by rw [hq]; exact dbel _ _⟩
end Go.Proofs.YtmcdpbnpnifdfaaGreat
