/- What the document's Find of layer 10 returns of an op that is there: the op that is asked, with its shapes; the error. What the document's Find and FindChan of layer 10 return, by the error of the op that is asked. BoundHolds. -/
import Derived.Test.YtbogpgaifbjahaaGh33
import Derived.Test.YtbogpgaifbjahaaGh34
/- What the document's Find of layer 10 returns of an op that is there: the op that is asked, with its shapes; the error. -/
namespace Go.Proofs.Ytbogpgaifbjahaa
open Go.ChangeShapes Go.WideShapes Go.ChangeAt Go.RowKit
set_option linter.unusedVariables false
set_option maxRecDepth 100000 in
set_option maxHeartbeats 8000000 in
theorem rfind_r (h w c lo hi ot ch : Int) (x : Addr) (on oc i : Nat) (O : Nat → Nat → Int) (Z B : Nat → List Int) (W : World) (hM : LRow W (some x) on oc O Z B) (hon : on ≤ 1000000000000) (hi0 : i < on) (wa : Option Addr) (lw cw : Nat) (ba : Option Addr) (lb cb : Nat)
    (hcell : ∀ q v, [.int .i64 (O i 0), .int .i64 (O i 1), .int .i64 (O i 2), .int .i64 (O i 3), .int .i64 (O i 4), .int .i64 (O i 5), .int .i64 (O i 6), .int .i64 (O i 7), .int .i64 (O i 8), .int .i64 (O i 9), .int .i64 (O i 10), .int .i64 (O i 11), .slice wa lw cw, .slice ba lb cb, .int .i64 (O i 14), .int .i64 (O i 15), .int .i64 (O i 16), .int .i64 (O i 17), .int .i64 (O i 18), .int .i64 (O i 19), .int .i64 (O i 20), .int .i64 (O i 21)][q]? = some v → W.cell? ((x.add (i * 22)).add q) = some v) (Rw : Int) (RL : List (Int × Int × Int)) (hR : gtR O h w c lo hi ot on = (0, 0, RL, Rw)) (hj0 : 0 ≤ O i 1) (hj1 : O i 1 ≤ (i : Int))
    (x0 y0 z0 H V C : Int) (hA : RL.getD (O i 1).toNat (0, 0, 0) = (x0, y0, z0)) (hB : RL.getD (i + 1) (0, 0, 0) = (H, V, C)) (rb : Bool) (hrb : rdB (O i 0) = rb) :
    Calls Try.prog 12 #[.agg #[.int .i64 h, .int .i64 w, .int .i64 c, .int .i64 lo, .int .i64 hi, .slice (some x) on oc, .int .i64 ot], .int .i64 ((i : Int) + 1), .int .i64 ch] W fun e w' => e = .returned (if rb = true then (if 0 ≤ ch ∧ ch ≤ C then .tuple #[.agg #[.int .i64 (O i 0), .int .i64 (O i 1), .int .i64 (O i 2), .int .i64 (O i 3), .int .i64 (O i 4), .int .i64 (O i 5), .int .i64 (O i 6), .int .i64 (O i 7), .int .i64 (O i 8), .int .i64 (O i 9), .int .i64 (O i 10), .int .i64 (O i 11), .slice wa lw cw, .slice ba lb cb, .int .i64 (O i 14), .int .i64 (O i 15), .int .i64 (O i 16), .int .i64 (O i 17), .int .i64 (O i 18), .int .i64 (O i 19), .int .i64 (O i 20), .int .i64 (O i 21), .int .i64 x0, .int .i64 y0, .int .i64 z0, .int .i64 H, .int .i64 V, .int .i64 C], .int .i64 0] else .tuple #[.agg #[.int .i64 0, .int .i64 0, .int .i64 0, .int .i64 0, .int .i64 0, .int .i64 0, .int .i64 0, .int .i64 0, .int .i64 0, .int .i64 0, .int .i64 0, .int .i64 0, .slice none 0 0, .slice none 0 0, .int .i64 0, .int .i64 0, .int .i64 0, .int .i64 0, .int .i64 0, .int .i64 0, .int .i64 0, .int .i64 0, .int .i64 0, .int .i64 0, .int .i64 0, .int .i64 0, .int .i64 0, .int .i64 0], .int .i64 3]) else .tuple #[.agg #[.int .i64 0, .int .i64 0, .int .i64 0, .int .i64 0, .int .i64 0, .int .i64 0, .int .i64 0, .int .i64 0, .int .i64 0, .int .i64 0, .int .i64 0, .int .i64 0, .slice none 0 0, .slice none 0 0, .int .i64 0, .int .i64 0, .int .i64 0, .int .i64 0, .int .i64 0, .int .i64 0, .int .i64 0, .int .i64 0, .int .i64 0, .int .i64 0, .int .i64 0, .int .i64 0, .int .i64 0, .int .i64 0], .int .i64 81]) ∧ Below W.heap.size W w' := by
  have hS : Hid (∀ W, LRow W (some x) on oc O Z B → _) := fun W hW => look_any h w c lo hi ot (some x) on oc O Z B W hW hon
  rw [hR] at hS
  simp only at hS
  obtain ⟨-, hRl, ho64, -, -, -⟩ := gtR_ok hR
  have hM2 : Hid (LRow W (some x) on oc O Z B) := hM
  have hocm := hM.1
  have hocx := hM.2.1
  unfold maxLen at hocx
  have Hc : Hid (∀ q v, [.int .i64 (O i 0), .int .i64 (O i 1), .int .i64 (O i 2), .int .i64 (O i 3), .int .i64 (O i 4), .int .i64 (O i 5), .int .i64 (O i 6), .int .i64 (O i 7), .int .i64 (O i 8), .int .i64 (O i 9), .int .i64 (O i 10), .int .i64 (O i 11), .slice wa lw cw, .slice ba lb cb, .int .i64 (O i 14), .int .i64 (O i 15), .int .i64 (O i 16), .int .i64 (O i 17), .int .i64 (O i 18), .int .i64 (O i 19), .int .i64 (O i 20), .int .i64 (O i 21)][q]? = some v → W.cell? ((x.add (i * 22)).add q) = some v) := hcell
  clear hR hM hcell
  have s0 := ((St.start W).new (c := #[.int .i64 h, .int .i64 w, .int .i64 c, .int .i64 lo, .int .i64 hi, .slice (some x) on oc, .int .i64 ot]) (t := 26)).new (c := #[.int .i64 0, .int .i64 0, .int .i64 0, .int .i64 0, .int .i64 0, .int .i64 0, .int .i64 0, .int .i64 0, .int .i64 0, .int .i64 0, .int .i64 0, .int .i64 0, .slice none 0 0, .slice none 0 0, .int .i64 0, .int .i64 0, .int .i64 0, .int .i64 0, .int .i64 0, .int .i64 0, .int .i64 0, .int .i64 0, .int .i64 0, .int .i64 0, .int .i64 0, .int .i64 0, .int .i64 0, .int .i64 0]) (t := 49)
  simp only [World.size_alloc] at s0
  go_enter Try.func12, Try.ntmps12
  go_wp2_with fail
  refine Calls.mono (hS.out _ (hM2.out.below s0.below)) ?_
  rintro e w1 ⟨v, rfl, hSh, hb⟩
  have s1 := (s0.call hb).new (c := #[.int .i64 0, .int .i64 0, .int .i64 0]) (t := 88)
  obtain ⟨g, cap, cur, rfl, hgb, hgc, hCu, -⟩ := hSh.cu (by omega)
  rw [hRl]
  have hcap := hCu.2.1
  obtain ⟨b1, b2, b3⟩ := hCu.at (show i + 1 < RL.length by omega)
  obtain ⟨a1, a2, a3⟩ := hCu.at (show (O i 1).toNat < RL.length by omega)
  rw [hB] at b1 b2 b3
  rw [hA] at a1 a2 a3
  simp only at a1 a2 a3 b1 b2 b3
  have hgz := lt_of_heap hgc
  have hgc2 : Hid ((w1.alloc (.cells #[.int .i64 0, .int .i64 0, .int .i64 0] 88)).heap[g]? = some (.cells cur 23 (0, 0))) := (heap_alloc_old w1 _ hgz).trans hgc
  obtain ⟨c1, f1, z1, c2, f2, z2, -⟩ := (s0.call hb).rules
  clear hb hSh hCu hgc hS hM2
  go_upto_region 6 with fail
  obtain ⟨w2, hw2⟩ : ∃ w2, w1.alloc (.cells #[.int .i64 0, .int .i64 0, .int .i64 0] 88) = w2 := ⟨_, rfl⟩
  rw [hw2] at s1 hgc2 ⊢
  have hw2z : Hid (w2.heap.size = w1.heap.size + 1) := by unfold Hid; rw [← hw2]; simp
  have HC1 : Hid (∀ q v, [.int .i64 (O i 0), .int .i64 (O i 1), .int .i64 (O i 2), .int .i64 (O i 3), .int .i64 (O i 4), .int .i64 (O i 5), .int .i64 (O i 6), .int .i64 (O i 7), .int .i64 (O i 8), .int .i64 (O i 9), .int .i64 (O i 10), .int .i64 (O i 11), .slice wa lw cw, .slice ba lb cb, .int .i64 (O i 14), .int .i64 (O i 15), .int .i64 (O i 16), .int .i64 (O i 17), .int .i64 (O i 18), .int .i64 (O i 19), .int .i64 (O i 20), .int .i64 (O i 21)][q]? = some v → w2.cell? ((x.add (i * 22)).add q) = some v) := fun q v hq => (s1.below.cell (World.block_lt_of_cell? W _ (Hc.out q v hq))).trans (Hc.out q v hq)
  have S2 : Hid (St W (w2.alloc (.cells #[.int .i64 (O i 0), .int .i64 (O i 1), .int .i64 (O i 2), .int .i64 (O i 3), .int .i64 (O i 4), .int .i64 (O i 5), .int .i64 (O i 6), .int .i64 (O i 7), .int .i64 (O i 8), .int .i64 (O i 9), .int .i64 (O i 10), .int .i64 (O i 11), .slice wa lw cw, .slice ba lb cb, .int .i64 (O i 14), .int .i64 (O i 15), .int .i64 (O i 16), .int .i64 (O i 17), .int .i64 (O i 18), .int .i64 (O i 19), .int .i64 (O i 20), .int .i64 (O i 21)] 47)) _) := s1.new (c := #[.int .i64 (O i 0), .int .i64 (O i 1), .int .i64 (O i 2), .int .i64 (O i 3), .int .i64 (O i 4), .int .i64 (O i 5), .int .i64 (O i 6), .int .i64 (O i 7), .int .i64 (O i 8), .int .i64 (O i 9), .int .i64 (O i 10), .int .i64 (O i 11), .slice wa lw cw, .slice ba lb cb, .int .i64 (O i 14), .int .i64 (O i 15), .int .i64 (O i 16), .int .i64 (O i 17), .int .i64 (O i 18), .int .i64 (O i 19), .int .i64 (O i 20), .int .i64 (O i 21)]) (t := 47)
  have hgc3 : Hid ((w2.alloc (.cells #[.int .i64 (O i 0), .int .i64 (O i 1), .int .i64 (O i 2), .int .i64 (O i 3), .int .i64 (O i 4), .int .i64 (O i 5), .int .i64 (O i 6), .int .i64 (O i 7), .int .i64 (O i 8), .int .i64 (O i 9), .int .i64 (O i 10), .int .i64 (O i 11), .slice wa lw cw, .slice ba lb cb, .int .i64 (O i 14), .int .i64 (O i 15), .int .i64 (O i 16), .int .i64 (O i 17), .int .i64 (O i 18), .int .i64 (O i 19), .int .i64 (O i 20), .int .i64 (O i 21)] 47)).heap[g]? = some (.cells cur 23 (0, 0))) := (heap_alloc_old _ _ (lt_of_heap hgc2.out)).trans hgc2.out
  clear c1 f1 c2 f2 hw2
  obtain ⟨-, -, z3, -, -, z4, c1, f1, z5, -⟩ := s1.rules
  clear s1 hgc2
  go_wp2_with (first
    | (refine wpList_load_any rfl 47 (.tmp 39) rfl _ rfl [.int .i64 (O i 0), .int .i64 (O i 1), .int .i64 (O i 2), .int .i64 (O i 3), .int .i64 (O i 4), .int .i64 (O i 5), .int .i64 (O i 6), .int .i64 (O i 7), .int .i64 (O i 8), .int .i64 (O i 9), .int .i64 (O i 10), .int .i64 (O i 11), .slice wa lw cw, .slice ba lb cb, .int .i64 (O i 14), .int .i64 (O i 15), .int .i64 (O i 16), .int .i64 (O i 17), .int .i64 (O i 18), .int .i64 (O i 19), .int .i64 (O i 20), .int .i64 (O i 21)] _ HC1.out Try.underlying47 rfl (by kernel_rfl) ?_)
    | (refine wpList_st_new rfl 47 (.tmp 11) (.tmp 40) rfl w2 _ #[.int .i64 (O i 0), .int .i64 (O i 1), .int .i64 (O i 2), .int .i64 (O i 3), .int .i64 (O i 4), .int .i64 (O i 5), .int .i64 (O i 6), .int .i64 (O i 7), .int .i64 (O i 8), .int .i64 (O i 9), .int .i64 (O i 10), .int .i64 (O i 11), .slice wa lw cw, .slice ba lb cb, .int .i64 (O i 14), .int .i64 (O i 15), .int .i64 (O i 16), .int .i64 (O i 17), .int .i64 (O i 18), .int .i64 (O i 19), .int .i64 (O i 20), .int .i64 (O i 21)] rfl rfl (by kernel_rfl) rfl (by simp [Value.oneCell']) ?_))
  refine (rred_any _ _).mono ?_
  rintro e w' ⟨rfl, hw'⟩
  obtain ⟨w3, hw3⟩ : ∃ w3, w2.alloc (.cells #[.int .i64 (O i 0), .int .i64 (O i 1), .int .i64 (O i 2), .int .i64 (O i 3), .int .i64 (O i 4), .int .i64 (O i 5), .int .i64 (O i 6), .int .i64 (O i 7), .int .i64 (O i 8), .int .i64 (O i 9), .int .i64 (O i 10), .int .i64 (O i 11), .slice wa lw cw, .slice ba lb cb, .int .i64 (O i 14), .int .i64 (O i 15), .int .i64 (O i 16), .int .i64 (O i 17), .int .i64 (O i 18), .int .i64 (O i 19), .int .i64 (O i 20), .int .i64 (O i 21)] 47) = w3 := ⟨_, rfl⟩
  rw [hw3] at hw' S2 hgc3
  have hw'' := hw'.symm
  subst hw''
  rw [hrb]
  have hz3 : Hid (w3.heap.size = w2.heap.size + 1) := by unfold Hid; rw [← hw3]; simp
  have hzz : w1.heap.size < w2.heap.size := by have := hw2z.out; omega
  clear hw' hw3 c1 f1 HC1 Hc
  cases rb with
  | false =>
    go_wp2_with (refine wpList_store_row rfl 49 (.tmp 6) (.tmp 45) rfl (W.heap.size + 1) #[.int .i64 0, .int .i64 0, .int .i64 0, .int .i64 0, .int .i64 0, .int .i64 0, .int .i64 0, .int .i64 0, .int .i64 0, .int .i64 0, .int .i64 0, .int .i64 0, .slice none 0 0, .slice none 0 0, .int .i64 0, .int .i64 0, .int .i64 0, .int .i64 0, .int .i64 0, .int .i64 0, .int .i64 0, .int .i64 0, .int .i64 0, .int .i64 0, .int .i64 0, .int .i64 0, .int .i64 0, .int .i64 0] rfl rfl 49 #[.int .i64 0, .int .i64 0, .int .i64 0, .int .i64 0, .int .i64 0, .int .i64 0, .int .i64 0, .int .i64 0, .int .i64 0, .int .i64 0, .int .i64 0, .int .i64 0, .slice none 0 0, .slice none 0 0, .int .i64 0, .int .i64 0, .int .i64 0, .int .i64 0, .int .i64 0, .int .i64 0, .int .i64 0, .int .i64 0, .int .i64 0, .int .i64 0, .int .i64 0, .int .i64 0, .int .i64 0, .int .i64 0] S2.out.h3 (by kernel_rfl) rfl (by simp [Value.oneCell']) ?_; have hZ' := setRow_heap _ (W.heap.size + 1) #[.int .i64 0, .int .i64 0, .int .i64 0, .int .i64 0, .int .i64 0, .int .i64 0, .int .i64 0, .int .i64 0, .int .i64 0, .int .i64 0, .int .i64 0, .int .i64 0, .slice none 0 0, .slice none 0 0, .int .i64 0, .int .i64 0, .int .i64 0, .int .i64 0, .int .i64 0, .int .i64 0, .int .i64 0, .int .i64 0, .int .i64 0, .int .i64 0, .int .i64 0, .int .i64 0, .int .i64 0, .int .i64 0] #[.int .i64 0, .int .i64 0, .int .i64 0, .int .i64 0, .int .i64 0, .int .i64 0, .int .i64 0, .int .i64 0, .int .i64 0, .int .i64 0, .int .i64 0, .int .i64 0, .slice none 0 0, .slice none 0 0, .int .i64 0, .int .i64 0, .int .i64 0, .int .i64 0, .int .i64 0, .int .i64 0, .int .i64 0, .int .i64 0, .int .i64 0, .int .i64 0, .int .i64 0, .int .i64 0, .int .i64 0, .int .i64 0] 49 (0, 0) S2.out.h3; have hB' : Hid (Below W.heap.size W (_ : World)) := below_setRow S2.out.below (show W.heap.size ≤ W.heap.size + 1 by omega) #[.int .i64 0, .int .i64 0, .int .i64 0, .int .i64 0, .int .i64 0, .int .i64 0, .int .i64 0, .int .i64 0, .int .i64 0, .int .i64 0, .int .i64 0, .int .i64 0, .slice none 0 0, .slice none 0 0, .int .i64 0, .int .i64 0, .int .i64 0, .int .i64 0, .int .i64 0, .int .i64 0, .int .i64 0, .int .i64 0, .int .i64 0, .int .i64 0, .int .i64 0, .int .i64 0, .int .i64 0, .int .i64 0]; generalize World.setRow _ _ _ = w5 at hZ' hB' ⊢)
    exact bodyPost_ret (results_row_tmp Try.results12 _ _ (W.heap.size + 1) 49 _ _ (.int .i64 81) rfl hZ' Try.underlying49 rfl (by kernel_rfl) rfl) rfl ⟨rfl, hB'.out⟩
  | true =>
    have hG := S2.out.h1
    go_upto_region 9 with fail
    refine regionC (fun w' => Below w3.heap.size w3 w') (by kernel_rfl) ?_
    obtain ⟨wd, hwd⟩ : ∃ wd, w3.drew = wd := ⟨_, rfl⟩
    have HD : Hid (Below w3.heap.size w3 wd) := by unfold Hid; rw [← hwd]; exact (Below.refl _ _).drew
    have hdz : Hid (wd.heap.size = w3.heap.size) := by unfold Hid; rw [← hwd]; rfl
    rw [hwd]
    clear hwd
    refine takeC 0 (v := .agg #[.int .i64 (O i 0), .int .i64 (O i 1), .int .i64 (O i 2), .int .i64 (O i 3), .int .i64 (O i 4), .int .i64 (O i 5), .int .i64 (O i 6), .int .i64 (O i 7), .int .i64 (O i 8), .int .i64 (O i 9), .int .i64 (O i 10), .int .i64 (O i 11), .slice wa lw cw, .slice ba lb cb, .int .i64 (O i 14), .int .i64 (O i 15), .int .i64 (O i 16), .int .i64 (O i 17), .int .i64 (O i 18), .int .i64 (O i 19), .int .i64 (O i 20), .int .i64 (O i 21)]) rfl rfl (by kernel_rfl) (by kernel_rfl) (by kernel_rfl) (fun _ _ _ h => h) (fun _ => rfl) rfl (fun w' hw' => run_la 47 (.tmp 11) rfl ⟨w2.heap.size, 0, none⟩ (by kernel_rfl) [.int .i64 (O i 0), .int .i64 (O i 1), .int .i64 (O i 2), .int .i64 (O i 3), .int .i64 (O i 4), .int .i64 (O i 5), .int .i64 (O i 6), .int .i64 (O i 7), .int .i64 (O i 8), .int .i64 (O i 9), .int .i64 (O i 10), .int .i64 (O i 11), .slice wa lw cw, .slice ba lb cb, .int .i64 (O i 14), .int .i64 (O i 15), .int .i64 (O i 16), .int .i64 (O i 17), .int .i64 (O i 18), .int .i64 (O i 19), .int .i64 (O i 20), .int .i64 (O i 21)] _ (fun q v hq => by rw [Addr.add_lit, Nat.zero_add, (cells_at ((hw'.block _ (lt_of_heap hG)).trans hG)).1]; simpa using hq) Try.underlying47 rfl (by kernel_rfl)) ?_
    refine takeC 1 (v := .slice (some ⟨g, 0, none⟩) (on + 1) cap) rfl rfl (by kernel_rfl) (by kernel_rfl) (by kernel_rfl) (fun _ _ _ h => h) (fun _ => rfl) rfl (fun w' hw' => by go_simp) ?_
    refine takeC 2 (v := .pointer (some ⟨w2.heap.size, 1, none⟩)) rfl rfl (by kernel_rfl) (by kernel_rfl) (by kernel_rfl) (fun _ _ _ h => h) (fun _ => rfl) rfl (fun w' hw' => by go_simp) ?_
    refine takeC 3 (v := .int .i64 (O i 1)) rfl rfl (by kernel_rfl) (by kernel_rfl) (by kernel_rfl) (fun _ _ _ h => h) (fun _ => rfl) rfl (fun w' hw' => by have hc := (cells_at ((hw'.block _ (lt_of_heap hG)).trans hG)).1 1; go_simp) ?_
    refine takeC 4 (v := .pointer (some ⟨g, (O i 1).toNat * 3, none⟩)) rfl rfl (by kernel_rfl) (by kernel_rfl) (by kernel_rfl) (fun _ _ _ h => h) (fun _ => rfl) rfl (fun w' hw' => by go_simp; intro q; omega) ?_
    refine takeC 5 (v := .agg #[.int .i64 x0, .int .i64 y0, .int .i64 z0]) rfl rfl (by kernel_rfl) (by kernel_rfl) (by kernel_rfl) (fun _ _ _ h => h) (fun _ => rfl) rfl (fun w' hw' => run_la 23 (.tmp 50) rfl ⟨g, (O i 1).toNat * 3, none⟩ (by kernel_rfl) [.int .i64 x0, .int .i64 y0, .int .i64 z0] _ (three_at ((hw'.block _ (lt_of_heap hgc3.out)).trans hgc3.out) a1 a2 a3) Try.underlying23 rfl (by kernel_rfl)) ?_
    refine takeC 6 (v := .slice (some ⟨g, 0, none⟩) (on + 1) cap) rfl rfl (by kernel_rfl) (by kernel_rfl) (by kernel_rfl) (fun _ _ _ h => h) (fun _ => rfl) rfl (fun w' hw' => by go_simp) ?_
    refine takeC 7 (v := .int .i64 ((i : Int) + 1)) rfl rfl (by kernel_rfl) (by kernel_rfl) (by kernel_rfl) (fun _ _ _ h => h) (fun _ => rfl) rfl (fun w' hw' => by go_simp) ?_
    refine takeC 8 (v := .pointer (some ⟨g, (i + 1) * 3, none⟩)) rfl rfl (by kernel_rfl) (by kernel_rfl) (by kernel_rfl) (fun _ _ _ h => h) (fun _ => rfl) rfl (fun w' hw' => by go_simp; intro q; omega) ?_
    refine takeC 9 (v := .agg #[.int .i64 H, .int .i64 V, .int .i64 C]) rfl rfl (by kernel_rfl) (by kernel_rfl) (by kernel_rfl) (fun _ _ _ h => h) (fun _ => rfl) rfl (fun w' hw' => run_la 23 (.tmp 54) rfl ⟨g, (i + 1) * 3, none⟩ (by kernel_rfl) [.int .i64 H, .int .i64 V, .int .i64 C] _ (three_at ((hw'.block _ (lt_of_heap hgc3.out)).trans hgc3.out) b1 b2 b3) Try.underlying23 rfl (by kernel_rfl)) ?_
    refine takeC 10 (v := .agg #[.int .i64 (O i 0), .int .i64 (O i 1), .int .i64 (O i 2), .int .i64 (O i 3), .int .i64 (O i 4), .int .i64 (O i 5), .int .i64 (O i 6), .int .i64 (O i 7), .int .i64 (O i 8), .int .i64 (O i 9), .int .i64 (O i 10), .int .i64 (O i 11), .slice wa lw cw, .slice ba lb cb, .int .i64 (O i 14), .int .i64 (O i 15), .int .i64 (O i 16), .int .i64 (O i 17), .int .i64 (O i 18), .int .i64 (O i 19), .int .i64 (O i 20), .int .i64 (O i 21), .int .i64 x0, .int .i64 y0, .int .i64 z0, .int .i64 H, .int .i64 V, .int .i64 C]) rfl rfl (by kernel_rfl) (by kernel_rfl) (by kernel_rfl) (fun _ _ _ h => h) (fun _ => rfl) rfl (fun w' hw' => by kernel_rfl) ?_
    refine stepC 11 HD.out (by kernel_rfl) rfl (fun K hK => step_wp rfl ?_)
    go_simp
    refine hK _ _ ?_
    clear hK K
    have HA : Hid (Below w3.heap.size w3 (wd.alloc (.cells #[.int .i64 0, .int .i64 0, .int .i64 0, .int .i64 0, .int .i64 0, .int .i64 0, .int .i64 0, .int .i64 0, .int .i64 0, .int .i64 0, .int .i64 0, .int .i64 0, .slice none 0 0, .slice none 0 0, .int .i64 0, .int .i64 0, .int .i64 0, .int .i64 0, .int .i64 0, .int .i64 0, .int .i64 0, .int .i64 0, .int .i64 0, .int .i64 0, .int .i64 0, .int .i64 0, .int .i64 0, .int .i64 0] 49))) := HD.out.alloc HD.out.size _
    refine stepC 12 HA.out (by kernel_rfl) rfl (fun K hK => step_wp rfl (wp_store_row 49 (.tmp 12) (.tmp 56) rfl wd.heap.size #[.int .i64 (O i 0), .int .i64 (O i 1), .int .i64 (O i 2), .int .i64 (O i 3), .int .i64 (O i 4), .int .i64 (O i 5), .int .i64 (O i 6), .int .i64 (O i 7), .int .i64 (O i 8), .int .i64 (O i 9), .int .i64 (O i 10), .int .i64 (O i 11), .slice wa lw cw, .slice ba lb cb, .int .i64 (O i 14), .int .i64 (O i 15), .int .i64 (O i 16), .int .i64 (O i 17), .int .i64 (O i 18), .int .i64 (O i 19), .int .i64 (O i 20), .int .i64 (O i 21), .int .i64 x0, .int .i64 y0, .int .i64 z0, .int .i64 H, .int .i64 V, .int .i64 C] (by kernel_rfl) (by kernel_rfl) 49 #[.int .i64 0, .int .i64 0, .int .i64 0, .int .i64 0, .int .i64 0, .int .i64 0, .int .i64 0, .int .i64 0, .int .i64 0, .int .i64 0, .int .i64 0, .int .i64 0, .slice none 0 0, .slice none 0 0, .int .i64 0, .int .i64 0, .int .i64 0, .int .i64 0, .int .i64 0, .int .i64 0, .int .i64 0, .int .i64 0, .int .i64 0, .int .i64 0, .int .i64 0, .int .i64 0, .int .i64 0, .int .i64 0] (heap_alloc_new wd _) (by kernel_rfl) rfl (by simp [Value.oneCell']) (hK _ _ ?_)))
    rw [World.setRow_alloc_new]
    refine doneC (HD.out.alloc HD.out.size _) (by kernel_rfl) ?_ _
    have S4 : Hid (St W (wd.alloc (.cells #[.int .i64 (O i 0), .int .i64 (O i 1), .int .i64 (O i 2), .int .i64 (O i 3), .int .i64 (O i 4), .int .i64 (O i 5), .int .i64 (O i 6), .int .i64 (O i 7), .int .i64 (O i 8), .int .i64 (O i 9), .int .i64 (O i 10), .int .i64 (O i 11), .slice wa lw cw, .slice ba lb cb, .int .i64 (O i 14), .int .i64 (O i 15), .int .i64 (O i 16), .int .i64 (O i 17), .int .i64 (O i 18), .int .i64 (O i 19), .int .i64 (O i 20), .int .i64 (O i 21), .int .i64 x0, .int .i64 y0, .int .i64 z0, .int .i64 H, .int .i64 V, .int .i64 C] 49)) _) := (S2.out.call HD.out).new (c := #[.int .i64 (O i 0), .int .i64 (O i 1), .int .i64 (O i 2), .int .i64 (O i 3), .int .i64 (O i 4), .int .i64 (O i 5), .int .i64 (O i 6), .int .i64 (O i 7), .int .i64 (O i 8), .int .i64 (O i 9), .int .i64 (O i 10), .int .i64 (O i 11), .slice wa lw cw, .slice ba lb cb, .int .i64 (O i 14), .int .i64 (O i 15), .int .i64 (O i 16), .int .i64 (O i 17), .int .i64 (O i 18), .int .i64 (O i 19), .int .i64 (O i 20), .int .i64 (O i 21), .int .i64 x0, .int .i64 y0, .int .i64 z0, .int .i64 H, .int .i64 V, .int .i64 C]) (t := 49)
    obtain ⟨w4, hw4⟩ : ∃ w4, wd.alloc (.cells #[.int .i64 (O i 0), .int .i64 (O i 1), .int .i64 (O i 2), .int .i64 (O i 3), .int .i64 (O i 4), .int .i64 (O i 5), .int .i64 (O i 6), .int .i64 (O i 7), .int .i64 (O i 8), .int .i64 (O i 9), .int .i64 (O i 10), .int .i64 (O i 11), .slice wa lw cw, .slice ba lb cb, .int .i64 (O i 14), .int .i64 (O i 15), .int .i64 (O i 16), .int .i64 (O i 17), .int .i64 (O i 18), .int .i64 (O i 19), .int .i64 (O i 20), .int .i64 (O i 21), .int .i64 x0, .int .i64 y0, .int .i64 z0, .int .i64 H, .int .i64 V, .int .i64 C] 49) = w4 := ⟨_, rfl⟩
    rw [hw4] at S4 ⊢
    have hR1 := S4.out.h1
    have HZ1 : Hid (w4.heap[W.heap.size + 1]? = some (.cells #[.int .i64 0, .int .i64 0, .int .i64 0, .int .i64 0, .int .i64 0, .int .i64 0, .int .i64 0, .int .i64 0, .int .i64 0, .int .i64 0, .int .i64 0, .int .i64 0, .slice none 0 0, .slice none 0 0, .int .i64 0, .int .i64 0, .int .i64 0, .int .i64 0, .int .i64 0, .int .i64 0, .int .i64 0, .int .i64 0, .int .i64 0, .int .i64 0, .int .i64 0, .int .i64 0, .int .i64 0, .int .i64 0] 49 (0, 0))) := S4.out.h4
    have hB1 : Hid (Below W.heap.size W w4) := S4.out.below
    obtain ⟨c1, f1, zz1, -⟩ := S4.out.rules
    clear hw4 HD HA hgc3 hG S2 S4 a1 a2 a3 b1 b2 b3
    by_cases q1 : ch < 0
    · go_wp2_with (refine wpList_store_row rfl 49 (.tmp 6) (.tmp 66) rfl (W.heap.size + 1) #[.int .i64 0, .int .i64 0, .int .i64 0, .int .i64 0, .int .i64 0, .int .i64 0, .int .i64 0, .int .i64 0, .int .i64 0, .int .i64 0, .int .i64 0, .int .i64 0, .slice none 0 0, .slice none 0 0, .int .i64 0, .int .i64 0, .int .i64 0, .int .i64 0, .int .i64 0, .int .i64 0, .int .i64 0, .int .i64 0, .int .i64 0, .int .i64 0, .int .i64 0, .int .i64 0, .int .i64 0, .int .i64 0] rfl rfl 49 #[.int .i64 0, .int .i64 0, .int .i64 0, .int .i64 0, .int .i64 0, .int .i64 0, .int .i64 0, .int .i64 0, .int .i64 0, .int .i64 0, .int .i64 0, .int .i64 0, .slice none 0 0, .slice none 0 0, .int .i64 0, .int .i64 0, .int .i64 0, .int .i64 0, .int .i64 0, .int .i64 0, .int .i64 0, .int .i64 0, .int .i64 0, .int .i64 0, .int .i64 0, .int .i64 0, .int .i64 0, .int .i64 0] HZ1.out (by kernel_rfl) rfl (by simp [Value.oneCell']) ?_; have hZ' := setRow_heap _ (W.heap.size + 1) #[.int .i64 0, .int .i64 0, .int .i64 0, .int .i64 0, .int .i64 0, .int .i64 0, .int .i64 0, .int .i64 0, .int .i64 0, .int .i64 0, .int .i64 0, .int .i64 0, .slice none 0 0, .slice none 0 0, .int .i64 0, .int .i64 0, .int .i64 0, .int .i64 0, .int .i64 0, .int .i64 0, .int .i64 0, .int .i64 0, .int .i64 0, .int .i64 0, .int .i64 0, .int .i64 0, .int .i64 0, .int .i64 0] #[.int .i64 0, .int .i64 0, .int .i64 0, .int .i64 0, .int .i64 0, .int .i64 0, .int .i64 0, .int .i64 0, .int .i64 0, .int .i64 0, .int .i64 0, .int .i64 0, .slice none 0 0, .slice none 0 0, .int .i64 0, .int .i64 0, .int .i64 0, .int .i64 0, .int .i64 0, .int .i64 0, .int .i64 0, .int .i64 0, .int .i64 0, .int .i64 0, .int .i64 0, .int .i64 0, .int .i64 0, .int .i64 0] 49 (0, 0) HZ1.out; have hB' : Hid (Below W.heap.size W (_ : World)) := below_setRow hB1.out (show W.heap.size ≤ W.heap.size + 1 by omega) #[.int .i64 0, .int .i64 0, .int .i64 0, .int .i64 0, .int .i64 0, .int .i64 0, .int .i64 0, .int .i64 0, .int .i64 0, .int .i64 0, .int .i64 0, .int .i64 0, .slice none 0 0, .slice none 0 0, .int .i64 0, .int .i64 0, .int .i64 0, .int .i64 0, .int .i64 0, .int .i64 0, .int .i64 0, .int .i64 0, .int .i64 0, .int .i64 0, .int .i64 0, .int .i64 0, .int .i64 0, .int .i64 0]; clear c1 f1 hR1; generalize World.setRow _ _ _ = w5 at hZ' hB' ⊢)
      exact bodyPost_ret (results_row_tmp Try.results12 _ _ (W.heap.size + 1) 49 _ _ (.int .i64 3) rfl hZ' Try.underlying49 rfl (by kernel_rfl) rfl) rfl ⟨by first | rfl | rw [if_pos rfl, if_neg (by omega)], hB'.out⟩
    · by_cases q2 : C < ch
      · go_wp2_with (refine wpList_store_row rfl 49 (.tmp 6) (.tmp 66) rfl (W.heap.size + 1) #[.int .i64 0, .int .i64 0, .int .i64 0, .int .i64 0, .int .i64 0, .int .i64 0, .int .i64 0, .int .i64 0, .int .i64 0, .int .i64 0, .int .i64 0, .int .i64 0, .slice none 0 0, .slice none 0 0, .int .i64 0, .int .i64 0, .int .i64 0, .int .i64 0, .int .i64 0, .int .i64 0, .int .i64 0, .int .i64 0, .int .i64 0, .int .i64 0, .int .i64 0, .int .i64 0, .int .i64 0, .int .i64 0] rfl rfl 49 #[.int .i64 0, .int .i64 0, .int .i64 0, .int .i64 0, .int .i64 0, .int .i64 0, .int .i64 0, .int .i64 0, .int .i64 0, .int .i64 0, .int .i64 0, .int .i64 0, .slice none 0 0, .slice none 0 0, .int .i64 0, .int .i64 0, .int .i64 0, .int .i64 0, .int .i64 0, .int .i64 0, .int .i64 0, .int .i64 0, .int .i64 0, .int .i64 0, .int .i64 0, .int .i64 0, .int .i64 0, .int .i64 0] HZ1.out (by kernel_rfl) rfl (by simp [Value.oneCell']) ?_; have hZ' := setRow_heap _ (W.heap.size + 1) #[.int .i64 0, .int .i64 0, .int .i64 0, .int .i64 0, .int .i64 0, .int .i64 0, .int .i64 0, .int .i64 0, .int .i64 0, .int .i64 0, .int .i64 0, .int .i64 0, .slice none 0 0, .slice none 0 0, .int .i64 0, .int .i64 0, .int .i64 0, .int .i64 0, .int .i64 0, .int .i64 0, .int .i64 0, .int .i64 0, .int .i64 0, .int .i64 0, .int .i64 0, .int .i64 0, .int .i64 0, .int .i64 0] #[.int .i64 0, .int .i64 0, .int .i64 0, .int .i64 0, .int .i64 0, .int .i64 0, .int .i64 0, .int .i64 0, .int .i64 0, .int .i64 0, .int .i64 0, .int .i64 0, .slice none 0 0, .slice none 0 0, .int .i64 0, .int .i64 0, .int .i64 0, .int .i64 0, .int .i64 0, .int .i64 0, .int .i64 0, .int .i64 0, .int .i64 0, .int .i64 0, .int .i64 0, .int .i64 0, .int .i64 0, .int .i64 0] 49 (0, 0) HZ1.out; have hB' : Hid (Below W.heap.size W (_ : World)) := below_setRow hB1.out (show W.heap.size ≤ W.heap.size + 1 by omega) #[.int .i64 0, .int .i64 0, .int .i64 0, .int .i64 0, .int .i64 0, .int .i64 0, .int .i64 0, .int .i64 0, .int .i64 0, .int .i64 0, .int .i64 0, .int .i64 0, .slice none 0 0, .slice none 0 0, .int .i64 0, .int .i64 0, .int .i64 0, .int .i64 0, .int .i64 0, .int .i64 0, .int .i64 0, .int .i64 0, .int .i64 0, .int .i64 0, .int .i64 0, .int .i64 0, .int .i64 0, .int .i64 0]; clear c1 f1 hR1; generalize World.setRow _ _ _ = w5 at hZ' hB' ⊢)
        exact bodyPost_ret (results_row_tmp Try.results12 _ _ (W.heap.size + 1) 49 _ _ (.int .i64 3) rfl hZ' Try.underlying49 rfl (by kernel_rfl) rfl) rfl ⟨by first | rfl | rw [if_pos rfl, if_neg (by omega)], hB'.out⟩
      · go_wp2_with (first
          | (refine wpList_load_row rfl 49 (.tmp 12) rfl wd.heap.size rfl 49 _ (0, 0) _ hR1 Try.underlying49 rfl (by kernel_rfl) ?_)
          | (refine wpList_store_row rfl 49 (.tmp 6) (.tmp 67) rfl (W.heap.size + 1) #[.int .i64 (O i 0), .int .i64 (O i 1), .int .i64 (O i 2), .int .i64 (O i 3), .int .i64 (O i 4), .int .i64 (O i 5), .int .i64 (O i 6), .int .i64 (O i 7), .int .i64 (O i 8), .int .i64 (O i 9), .int .i64 (O i 10), .int .i64 (O i 11), .slice wa lw cw, .slice ba lb cb, .int .i64 (O i 14), .int .i64 (O i 15), .int .i64 (O i 16), .int .i64 (O i 17), .int .i64 (O i 18), .int .i64 (O i 19), .int .i64 (O i 20), .int .i64 (O i 21), .int .i64 x0, .int .i64 y0, .int .i64 z0, .int .i64 H, .int .i64 V, .int .i64 C] rfl rfl 49 #[.int .i64 0, .int .i64 0, .int .i64 0, .int .i64 0, .int .i64 0, .int .i64 0, .int .i64 0, .int .i64 0, .int .i64 0, .int .i64 0, .int .i64 0, .int .i64 0, .slice none 0 0, .slice none 0 0, .int .i64 0, .int .i64 0, .int .i64 0, .int .i64 0, .int .i64 0, .int .i64 0, .int .i64 0, .int .i64 0, .int .i64 0, .int .i64 0, .int .i64 0, .int .i64 0, .int .i64 0, .int .i64 0] HZ1.out (by kernel_rfl) rfl (by simp [Value.oneCell']) ?_; have hZ' := setRow_heap _ (W.heap.size + 1) #[.int .i64 0, .int .i64 0, .int .i64 0, .int .i64 0, .int .i64 0, .int .i64 0, .int .i64 0, .int .i64 0, .int .i64 0, .int .i64 0, .int .i64 0, .int .i64 0, .slice none 0 0, .slice none 0 0, .int .i64 0, .int .i64 0, .int .i64 0, .int .i64 0, .int .i64 0, .int .i64 0, .int .i64 0, .int .i64 0, .int .i64 0, .int .i64 0, .int .i64 0, .int .i64 0, .int .i64 0, .int .i64 0] #[.int .i64 (O i 0), .int .i64 (O i 1), .int .i64 (O i 2), .int .i64 (O i 3), .int .i64 (O i 4), .int .i64 (O i 5), .int .i64 (O i 6), .int .i64 (O i 7), .int .i64 (O i 8), .int .i64 (O i 9), .int .i64 (O i 10), .int .i64 (O i 11), .slice wa lw cw, .slice ba lb cb, .int .i64 (O i 14), .int .i64 (O i 15), .int .i64 (O i 16), .int .i64 (O i 17), .int .i64 (O i 18), .int .i64 (O i 19), .int .i64 (O i 20), .int .i64 (O i 21), .int .i64 x0, .int .i64 y0, .int .i64 z0, .int .i64 H, .int .i64 V, .int .i64 C] 49 (0, 0) HZ1.out; have hB' : Hid (Below W.heap.size W (_ : World)) := below_setRow hB1.out (show W.heap.size ≤ W.heap.size + 1 by omega) #[.int .i64 (O i 0), .int .i64 (O i 1), .int .i64 (O i 2), .int .i64 (O i 3), .int .i64 (O i 4), .int .i64 (O i 5), .int .i64 (O i 6), .int .i64 (O i 7), .int .i64 (O i 8), .int .i64 (O i 9), .int .i64 (O i 10), .int .i64 (O i 11), .slice wa lw cw, .slice ba lb cb, .int .i64 (O i 14), .int .i64 (O i 15), .int .i64 (O i 16), .int .i64 (O i 17), .int .i64 (O i 18), .int .i64 (O i 19), .int .i64 (O i 20), .int .i64 (O i 21), .int .i64 x0, .int .i64 y0, .int .i64 z0, .int .i64 H, .int .i64 V, .int .i64 C]; clear c1 f1 hR1; generalize World.setRow _ _ _ = w6 at hZ' hB' ⊢))
        exact bodyPost_ret (results_row_tmp Try.results12 _ _ (W.heap.size + 1) 49 _ _ (.int .i64 0) rfl hZ' Try.underlying49 rfl (by kernel_rfl) rfl) rfl ⟨by first | rfl | rw [if_pos rfl, if_pos (by omega)], hB'.out⟩
end Go.Proofs.Ytbogpgaifbjahaa

/- What the document's Find and FindChan of layer 10 return, by the error of the op that is asked. -/
namespace Go.Proofs.Ytbogpgaifbjahaa
open Go.ChangeShapes Go.WideShapes Go.ChangeAt Go.RowKit
set_option linter.unusedVariables false
theorem rfind_ok (h w c lo hi ot : Int) (oa : Option Addr) (on oc : Nat) (O : Nat → Nat → Int) (Z B : Nat → List Int) (W : World) (hL : LRow W oa on oc O Z B) (hon : on ≤ 1000000000000) (ch : Int) (RL : List (Int × Int × Int)) (Rw : Int) (hR : gtR O h w c lo hi ot on = (0, 0, RL, Rw)) (i : Nat) (x : Addr) (wa : Option Addr) (lw cw : Nat) (ba : Option Addr) (lb cb : Nat) (x0 y0 z0 H V C : Int) (hF : Fnd W oa on O Z B RL i x wa lw cw ba lb cb x0 y0 z0 H V C) (hc : 0 ≤ ch ∧ ch ≤ C) :
    Calls Try.prog 12 #[.agg #[.int .i64 h, .int .i64 w, .int .i64 c, .int .i64 lo, .int .i64 hi, .slice oa on oc, .int .i64 ot], .int .i64 ((i : Int) + 1), .int .i64 ch] W fun e w' => e = .returned (.tuple #[.agg #[.int .i64 (O i 0), .int .i64 (O i 1), .int .i64 (O i 2), .int .i64 (O i 3), .int .i64 (O i 4), .int .i64 (O i 5), .int .i64 (O i 6), .int .i64 (O i 7), .int .i64 (O i 8), .int .i64 (O i 9), .int .i64 (O i 10), .int .i64 (O i 11), .slice wa lw cw, .slice ba lb cb, .int .i64 (O i 14), .int .i64 (O i 15), .int .i64 (O i 16), .int .i64 (O i 17), .int .i64 (O i 18), .int .i64 (O i 19), .int .i64 (O i 20), .int .i64 (O i 21), .int .i64 x0, .int .i64 y0, .int .i64 z0, .int .i64 H, .int .i64 V, .int .i64 C], .int .i64 0]) ∧ Below W.heap.size W w' := by
  obtain ⟨h1, rfl, h3, h4, h5, h6, h7, h8, h9, h10, h11, h12⟩ := hF
  have := rfind_r h w c lo hi ot ch x on oc i O Z B W hL hon h1 wa lw cw ba lb cb h5 Rw RL hR h11.1 h11.2 _ _ _ _ _ _ h8 h9 true h12
  rw [if_pos rfl, if_pos hc] at this
  exact this
/-! ### FindChan -/
end Go.Proofs.Ytbogpgaifbjahaa

/- BoundHolds. -/
namespace Go.Proofs.Ytbogpgaifbjahaa
open Go.ChangeShapes Go.WideShapes Go.ChangeAt Go.RowKit
set_option linter.unusedVariables false
theorem boundHolds_walk (h w c lo hi : Int) (oa : Option Addr) (on oc : Nat) (ot op ch slo shi dp at' : Int) (ad : Option Addr) (n cap : Nat) (xs : List Int) (W : World) (_ : (Lit.int .i64 h).wf = true) (_ : (Lit.int .i64 w).wf = true) (_ : (Lit.int .i64 c).wf = true) (_ : (Lit.int .i64 lo).wf = true) (_ : (Lit.int .i64 hi).wf = true) (wo : ORow 22 (OpIn W) W oa on oc) (hr : on * 208 ≤ 140737488351232) (_ : (Lit.int .i64 ot).wf = true) (_ : (Lit.int .i64 op).wf = true) (_ : (Lit.int .i64 ch).wf = true) (_ : (Lit.int .i64 slo).wf = true) (_ : (Lit.int .i64 shi).wf = true) (_ : (Lit.int .i64 dp).wf = true) (_ : (Lit.int .i64 at').wf = true) (hX : IRow .i8 W ad n cap xs) (hrx : n * 1 ≤ 140737488351232) : Calls Try.prog 3 #[.agg #[.int .i64 h, .int .i64 w, .int .i64 c, .int .i64 lo, .int .i64 hi, .slice oa on oc, .int .i64 ot, .int .i64 op, .int .i64 ch, .int .i64 slo, .int .i64 shi, .int .i64 dp, .int .i64 at', .slice ad n cap]] W fun e w' => e = .returned (.bool true) ∧ Below W.heap.size W w' := by
  obtain ⟨O, Z, B, hL⟩ := lrow_of wo
  obtain ⟨E, hf⟩ : ∃ E, fiE O h w c lo hi ot on op = E := ⟨_, rfl⟩
  by_cases hE : E = 0
  rotate_left
  · have hO := bofe_e h w c lo hi ot oa on oc O Z B W hL op ch E hf hE
    exact holds13_e h w c lo hi oa on oc ot op ch slo shi dp at' ad n cap W 0 0 0 0 0 0 E 0 0 E
      (fun W' hb => (of_bad h w c lo hi ot oa on oc O Z B W' (hL.below hb) op ch at' E hf hE).mono fun e w' q => ⟨⟨_, _, _, _, _, q.1, .inl hE⟩, q.2⟩)
      (fun W' hb => btot_bad h w c lo hi ot op ch oa on oc W' slo shi E hE (fun W'' hb' => hO W'' (hb.trans (hb'.mono hb.size))))
      (fun W' hb => brun_bad h w c lo hi ot op ch oa on oc W' slo shi E hE (fun W'' hb' => hO W'' (hb.trans (hb'.mono hb.size))))
      (fun W' hb => bprt_bad h w c lo hi ot op ch oa on oc W' slo shi dp E hE (fun W'' hb' => hO W'' (hb.trans (hb'.mono hb.size))))
      (fun W' hb => bprd_bad h w c lo hi ot op ch oa on oc W' slo shi E hE (fun W'' hb' => hO W'' (hb.trans (hb'.mono hb.size)))) (fun _ => ⟨rfl, rfl, rfl⟩)
  subst hE
  obtain ⟨RL, Rw, hR, i, x, wa, lw, cw, ba, lb, cb, x0, y0, z0, H, V, C, rfl, hF⟩ := found h w c lo hi ot oa on oc O Z B W hL op hf
  by_cases hch : 1 ≤ ch ∧ ch ≤ C
  rotate_left
  · have hO := bofe_p h w c lo hi ot oa on oc O Z B W hL ch RL Rw hR i x wa lw cw ba lb cb x0 y0 z0 H V C hF hch _ 3 rfl rfl
    exact holds13_e h w c lo hi oa on oc ot _ ch slo shi dp at' ad n cap W 0 0 0 0 0 0 3 0 0 3
      (fun W' hb => (of_place h w c lo hi ot oa on oc O Z B W' (hL.below hb) ch at' RL Rw hR i x wa lw cw ba lb cb x0 y0 z0 H V C (hF.below hb) (fun q => hch q.1)).mono fun e w' q => ⟨⟨_, _, _, _, _, q.1, .inl (by decide)⟩, q.2⟩)
      (fun W' hb => btot_bad h w c lo hi ot _ ch oa on oc W' slo shi 3 (by decide) (fun W'' hb' => hO W'' (hb.trans (hb'.mono hb.size))))
      (fun W' hb => brun_bad h w c lo hi ot _ ch oa on oc W' slo shi 3 (by decide) (fun W'' hb' => hO W'' (hb.trans (hb'.mono hb.size))))
      (fun W' hb => bprt_bad h w c lo hi ot _ ch oa on oc W' slo shi dp 3 (by decide) (fun W'' hb' => hO W'' (hb.trans (hb'.mono hb.size))))
      (fun W' hb => bprd_bad h w c lo hi ot _ ch oa on oc W' slo shi 3 (by decide) (fun W'' hb' => hO W'' (hb.trans (hb'.mono hb.size)))) (fun _ => ⟨rfl, rfl, rfl⟩)
  obtain ⟨N, hN⟩ : ∃ N, (siL (O i 0) (O i 4) (O i 5) (O i 6) (O i 7) (O i 8) (O i 9) (O i 10) (O i 11) x0 y0 z0 ch 0 (Z i)).length = N := ⟨_, rfl⟩
  have hT := fun (W' : World) (hb : Below W.heap.size W W') => btot_ok h w c lo hi ot oa on oc O Z B W' (hL.below hb) ch RL Rw hR i x wa lw cw ba lb cb x0 y0 z0 H V C (hF.below hb) hch slo shi
  have hRu := fun (W' : World) (hb : Below W.heap.size W W') => brun_ok h w c lo hi ot oa on oc O Z B W' (hL.below hb) ch RL Rw hR i x wa lw cw ba lb cb x0 y0 z0 H V C (hF.below hb) hch slo shi
  have hPa := fun (W' : World) (hb : Below W.heap.size W W') => bprt_ok h w c lo hi ot oa on oc O Z B W' (hL.below hb) ch RL Rw hR i x wa lw cw ba lb cb x0 y0 z0 H V C (hF.below hb) hch slo shi dp N hN
  have hPr := fun (W' : World) (hb : Below W.heap.size W W') => bprd_ok h w c lo hi ot oa on oc O Z B W' (hL.below hb) ch RL Rw hR i x wa lw cw ba lb cb x0 y0 z0 H V C (hF.below hb) hch slo shi
  cases hs : vbB slo shi with
  | false =>
    have eD : spD slo shi dp N (hbD dp.toNat (fun (j : Nat) => enL slo shi (O i 19) (siL (O i 0) (O i 4) (O i 5) (O i 6) (O i 7) (O i 8) (O i 9) (O i 10) (O i 11) x0 y0 z0 ch (j : Int) (Z i))) (H * V).toNat) = (0, 0, 30) := by unfold spD; rw [if_neg (by rw [hs]; decide)]
    rw [spR_f hs] at hT hRu hPr
    rw [eD] at hPa
    refine holds13_e h w c lo hi oa on oc ot _ ch slo shi dp at' ad n cap W 0 0 0 0 0 0 30 0 0 30 (fun W' hb => ?_) hT hRu hPa hPr (fun _ => ⟨rfl, rfl, rfl⟩)
    by_cases hat : 0 ≤ at' ∧ at' < H * V
    · refine (of_ok h w c lo hi ot oa on oc O Z B W' (hL.below hb) ch at' RL Rw hR i x wa lw cw ba lb cb x0 y0 z0 H V C (hF.below hb) hch hat).mono ?_
      rintro e w' ⟨⟨v, rfl, hv⟩, q⟩
      obtain ⟨va, vc, rfl⟩ := hv.slice
      exact ⟨⟨_, _, _, _, _, rfl, .inr (by decide)⟩, q⟩
    · exact (of_place h w c lo hi ot oa on oc O Z B W' (hL.below hb) ch at' RL Rw hR i x wa lw cw ba lb cb x0 y0 z0 H V C (hF.below hb) (fun q => hat q.2)).mono fun e w' q => ⟨⟨_, _, _, _, _, q.1, .inl (by decide)⟩, q.2⟩
  | true =>
    rw [spR_t hs] at hT hRu hPr
    by_cases hat : 0 ≤ at' ∧ at' < H * V
    rotate_left
    · exact holds13_e h w c lo hi oa on oc ot _ ch slo shi dp at' ad n cap W _ _ _ _ _ _ _ _ _ 0 (fun W' hb => (of_place h w c lo hi ot oa on oc O Z B W' (hL.below hb) ch at' RL Rw hR i x wa lw cw ba lb cb x0 y0 z0 H V C (hF.below hb) (fun q => hat q.2)).mono fun e w' q => ⟨⟨_, _, _, _, _, q.1, .inl (by decide)⟩, q.2⟩) hT hRu hPa hPr (fun q => absurd rfl q)
    have hSit := hF.2.2.2.2.2.2.2.2.2.1
    have hz := hF.2.2.2.2.2.1.2.2.2.1
    obtain ⟨-, -, -, -, hp, hbi, -⟩ := bfacts hL RL Rw hR i x wa lw cw ba lb cb x0 y0 z0 H V C hF hch
    have hv := vbB_yes hs
    obtain ⟨j, rfl⟩ := Int.eq_ofNat_of_zero_le hat.1
    have hj : j < (H * V).toNat := by omega
    have hox : oa = some x := hF.2.1
    subst hox
    have hcell := hF.2.2.2.2.1
    have hon : on ≤ 1000000000000 := by omega
    obtain ⟨f1, f2⟩ := siL_facts hSit hz hch (j : Int)
    obtain ⟨g1, g2, g3⟩ := row_facts hSit hz hch hv hp (j : Int)
    have hva := vS_bd hSit.2.1
    have hl := enL_len slo shi (O i 19) (siL (O i 0) (O i 4) (O i 5) (O i 6) (O i 7) (O i 8) (O i 9) (O i 10) (O i 11) x0 y0 z0 ch (j : Int) (Z i))
    obtain ⟨L, hLn⟩ : ∃ L, (siL (O i 0) (O i 4) (O i 5) (O i 6) (O i 7) (O i 8) (O i 9) (O i 10) (O i 11) x0 y0 z0 ch (j : Int) (Z i)).length = L := ⟨_, rfl⟩
    rw [hLn] at f1 hl
    refine holds13_k h w c lo hi i x on oc ot ch slo shi dp (j : Int) ad n cap W (O i 0) (O i 1) (O i 2) (O i 3) (O i 4) (O i 5) (O i 6) (O i 7) (O i 8) (O i 9) (O i 10) (O i 11) wa lw cw ba lb cb (O i 14) (O i 15) (O i 16) (O i 17) (O i 18) (O i 19) (O i 20) (O i 21) x0 y0 z0 H V C _ _ _ _ _ _ _ _ _ (biA (O i 0) ch (B i)) (siL (O i 0) (O i 4) (O i 5) (O i 6) (O i 7) (O i 8) (O i 9) (O i 10) (O i 11) x0 y0 z0 ch (j : Int) (Z i)) (enL slo shi (O i 19) (siL (O i 0) (O i 4) (O i 5) (O i 6) (O i 7) (O i 8) (O i 9) (O i 10) (O i 11) x0 y0 z0 ch (j : Int) (Z i))) L xs hX hLn f1 (fun W' hb => of_ok h w c lo hi ot (some x) on oc O Z B W' (hL.below hb) ch (j : Int) RL Rw hR i x wa lw cw ba lb cb x0 y0 z0 H V C (hF.below hb) hch hat) hT hRu hPa hPr
      (fun W' hb => rfind_ok h w c lo hi ot (some x) on oc O Z B W' (hL.below hb) hon 0 RL Rw hR i x wa lw cw ba lb cb x0 y0 z0 H V C (hF.below hb) ⟨by omega, by omega⟩) ⟨by omega, by omega⟩ ⟨by omega, by omega⟩ hF.1 hon (hcell 19 _ rfl) hp hv (fun k hk => ?_) hl g1 hbi (fun k hk => run_at (biA (O i 0) ch (B i)) (fun (j : Nat) => enL slo shi (O i 19) (siL (O i 0) (O i 4) (O i 5) (O i 6) (O i 7) (O i 8) (O i 9) (O i 10) (O i 11) x0 y0 z0 ch (j : Int) (Z i))) (H * V).toNat j hj (by rw [hl]; exact hk)) (tot_at (biA (O i 0) ch (B i)) (fun (j : Nat) => enL slo shi (O i 19) (siL (O i 0) (O i 4) (O i 5) (O i 6) (O i 7) (O i 8) (O i 9) (O i 10) (O i 11) x0 y0 z0 ch (j : Int) (Z i))) (H * V).toNat j hj) (fun k hk => prd_at (fun (j : Nat) => enL slo shi (O i 19) (siL (O i 0) (O i 4) (O i 5) (O i 6) (O i 7) (O i 8) (O i 9) (O i 10) (O i 11) x0 y0 z0 ch (j : Int) (Z i))) (H * V).toNat j hj (by rw [hl]; exact hk)) (fun q1 q2 k hk => ?_)
    · have hk' : k < (siL (O i 0) (O i 4) (O i 5) (O i 6) (O i 7) (O i 8) (O i 9) (O i 10) (O i 11) x0 y0 z0 ch (j : Int) (Z i)).length := by rw [hLn]; exact hk
      refine ⟨((siL (O i 0) (O i 4) (O i 5) (O i 6) (O i 7) (O i 8) (O i 9) (O i 10) (O i 11) x0 y0 z0 ch (j : Int) (Z i)).getD k (0, 0)).1, ((siL (O i 0) (O i 4) (O i 5) (O i 6) (O i 7) (O i 8) (O i 9) (O i 10) (O i 11) x0 y0 z0 ch (j : Int) (Z i)).getD k (0, 0)).2, rfl, ?_, f2 _ (getD_in hk')⟩
      rw [enL_getD slo shi (O i 19) hk' (0, 0) (0, 0)]
    · by_cases hd : 1 ≤ dp ∧ dp ≤ (N : Int)
      · have eD : spD slo shi dp N (hbD dp.toNat (fun (j : Nat) => enL slo shi (O i 19) (siL (O i 0) (O i 4) (O i 5) (O i 6) (O i 7) (O i 8) (O i 9) (O i 10) (O i 11) x0 y0 z0 ch (j : Int) (Z i))) (H * V).toNat) = ((hbD dp.toNat (fun (j : Nat) => enL slo shi (O i 19) (siL (O i 0) (O i 4) (O i 5) (O i 6) (O i 7) (O i 8) (O i 9) (O i 10) (O i 11) x0 y0 z0 ch (j : Int) (Z i))) (H * V).toNat).1, (hbD dp.toNat (fun (j : Nat) => enL slo shi (O i 19) (siL (O i 0) (O i 4) (O i 5) (O i 6) (O i 7) (O i 8) (O i 9) (O i 10) (O i 11) x0 y0 z0 ch (j : Int) (Z i))) (H * V).toNat).2, 0) := by unfold spD; rw [if_pos hs, if_pos hd]
        rw [eD]
        exact prt_at (show 0 < dp.toNat by omega) (fun (j : Nat) => enL slo shi (O i 19) (siL (O i 0) (O i 4) (O i 5) (O i 6) (O i 7) (O i 8) (O i 9) (O i 10) (O i 11) x0 y0 z0 ch (j : Int) (Z i))) (H * V).toNat j hj (by rw [hl]; exact hk)
      · unfold spD at q1
        rw [if_pos hs, if_neg hd] at q1
        cases q1
end Go.Proofs.Ytbogpgaifbjahaa
