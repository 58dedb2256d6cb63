/- What find of package bound returns. -/
import Derived.Test.YtbogpgaifbjahaaGr23
import Derived.Test.YtbogpgaifbjahaaGr24
/- What find of package bound returns. -/
namespace Go.Proofs.Ytbogpgaifbjahaa
open Go.ChangeShapes Go.WideShapes Go.ChangeAt Go.RowKit
set_option linter.unusedVariables false
theorem St.rowset {w0 w : World} {B : Nat} {c c' : Array Value} {t : TypeId} {l : List (Nat × Array Value × TypeId)} (h : St w0 w ((B, c, t) :: l)) (hl : ∀ x ∈ l, x.1 ≠ B) : St w0 (w.setRow B c') ((B, c', t) :: l) := by
  refine ⟨below_setRow h.1 (h.2 _ List.mem_cons_self).2 c', fun x hx => ?_⟩
  rcases List.mem_cons.1 hx with rfl | hx
  · exact ⟨setRow_heap w _ c c' t (0, 0) h.h1, (h.2 _ List.mem_cons_self).2⟩
  · exact ⟨(setRow_other _ _ _ _ (hl x hx)).trans (h.2 x (List.mem_cons_of_mem _ hx)).1, (h.2 x (List.mem_cons_of_mem _ hx)).2⟩
set_option maxRecDepth 100000 in
set_option maxHeartbeats 4000000 in
theorem bfind_a (h w c lo hi ot op ch : Int) (oa : Option Addr) (on oc : Nat) (O : Nat → Nat → Int) (W : World) (hM : MRow W oa on oc O) (slo shi : Int) (Re Ra Rw : Int) (RL : List (Int × Int × Int)) (hR : gtR O h w c lo hi ot on = (Re, Ra, RL, Rw)) (he : Re ≠ 0) :
    Calls Try.prog 24 #[.agg #[.int .i64 h, .int .i64 w, .int .i64 c, .int .i64 lo, .int .i64 hi, .slice oa on oc, .int .i64 ot], .int .i64 op, .int .i64 ch, .agg #[.int .i64 slo, .int .i64 shi]] W fun e w' => e = .returned (.tuple #[.agg #[.int .i64 0, .int .i64 0, .slice none 0 0, .int .i64 0, .int .i64 0, .int .i64 0, .int .i64 0, .int .i64 0, .int .i64 0, .int .i64 0, .int .i64 0, .int .i64 0, .int .i64 0, .slice none 0 0, .int .i64 0], .int .i64 Re]) ∧ Below W.heap.size W w' := by
  have hS : Hid (∀ W, MRow W oa on oc O → _) := fun W hW => shapes_any h w c lo hi ot oa on oc O W hW
  rw [hR] at hS
  simp only at hS
  have he' : (Re == 0) = false := by simp [he]
  have hM2 : Hid (MRow W oa on oc O) := hM
  clear hR hM
  have s0 := (((St.start W).new (c := #[.int .i64 h, .int .i64 w, .int .i64 c, .int .i64 lo, .int .i64 hi, .slice oa on oc, .int .i64 ot]) (t := 26)).new (c := #[.int .i64 slo, .int .i64 shi]) (t := 28)).new (c := #[.int .i64 0, .int .i64 0, .slice none 0 0, .int .i64 0, .int .i64 0, .int .i64 0, .int .i64 0, .int .i64 0, .int .i64 0, .int .i64 0, .int .i64 0, .int .i64 0, .int .i64 0, .slice none 0 0, .int .i64 0]) (t := 73)
  simp only [World.size_alloc] at s0
  go_enter Try.func24, Try.ntmps24
  go_wp2_with fail
  refine Calls.mono (hS.out _ (hM2.out.below s0.below)) ?_
  rintro e w1 ⟨v, rfl, hSh, hb⟩
  have s1 := (s0.call hb).new (c := #[.int .i64 Re, .int .i64 Ra, .int .i64 0]) (t := 88)
  obtain ⟨va, vc, rfl⟩ := hSh.slice
  obtain ⟨c1, f1, z1, c2, f2, z2, -⟩ := (s0.call hb).rules
  clear hb hSh
  go_wp2
  obtain ⟨w2, hw2⟩ : ∃ w2, w1.alloc (.cells #[.int .i64 Re, .int .i64 Ra, .int .i64 0] 88) = w2 := ⟨_, rfl⟩
  rw [hw2] at s1 ⊢
  have hF := s1.h1
  have hZ := s1.h2
  have S1 : Hid (St W w2 _) := s1
  clear hw2 s0 s1 c1 f1 c2 f2
  refine regionC (fun w' => w'.heap[w1.heap.size]? = some (.cells #[.int .i64 Re, .int .i64 Ra, .int .i64 0] 88 (0, 0))) (by kernel_rfl) ?_
  refine takeC 0 (v := .agg #[.int .i64 0, .int .i64 0, .slice none 0 0, .int .i64 0, .int .i64 0, .int .i64 0, .int .i64 0, .int .i64 0, .int .i64 0, .int .i64 0, .int .i64 0, .int .i64 0, .int .i64 0, .slice none 0 0, .int .i64 0]) rfl rfl (by kernel_rfl) (by kernel_rfl) (by kernel_rfl) (fun _ _ _ h => h) (fun _ => rfl) rfl (fun w' hw' => by kernel_rfl) ?_
  refine takeC 1 (v := .pointer (some ⟨w1.heap.size, 0, none⟩)) rfl rfl (by kernel_rfl) (by kernel_rfl) (by kernel_rfl) (fun _ _ _ h => h) (fun _ => rfl) rfl (fun w' hw' => by go_simp) ?_
  refine takeC 2 (v := .int .i64 Re) rfl rfl (by kernel_rfl) (by kernel_rfl) (by kernel_rfl) (fun _ _ _ h => h) (fun _ => rfl) rfl (fun w' hw' => by have hc := (cells_at hw').1 0; go_simp) ?_
  have hne : w1.heap.size ≠ W.heap.size + 1 + 1 := by omega
  refine stepC 3 hF (by kernel_rfl) rfl (fun K hK => step_wp rfl (wp_store_row 73 (.tmp 8) (.tmp 25) rfl (W.heap.size + 1 + 1) #[.int .i64 0, .int .i64 0, .slice none 0 0, .int .i64 0, .int .i64 0, .int .i64 0, .int .i64 0, .int .i64 0, .int .i64 0, .int .i64 0, .int .i64 0, .int .i64 0, .int .i64 0, .slice none 0 0, .int .i64 0] rfl rfl 73 #[.int .i64 0, .int .i64 0, .slice none 0 0, .int .i64 0, .int .i64 0, .int .i64 0, .int .i64 0, .int .i64 0, .int .i64 0, .int .i64 0, .int .i64 0, .int .i64 0, .int .i64 0, .slice none 0 0, .int .i64 0] hZ (by kernel_rfl) rfl (by simp [Value.oneCell']) (hK _ _ ?_)))
  refine takeC 4 (v := .int .i64 Re) rfl rfl (by kernel_rfl) (by kernel_rfl) (by kernel_rfl) (fun _ _ _ h => h) (fun _ => rfl) rfl (fun w' hw' => by go_simp) ?_
  refine doneC ((setRow_other _ _ _ _ hne).trans hF) (by kernel_rfl) ?_ _
  have hZ' := setRow_heap w2.drew (W.heap.size + 1 + 1) #[.int .i64 0, .int .i64 0, .slice none 0 0, .int .i64 0, .int .i64 0, .int .i64 0, .int .i64 0, .int .i64 0, .int .i64 0, .int .i64 0, .int .i64 0, .int .i64 0, .int .i64 0, .slice none 0 0, .int .i64 0] #[.int .i64 0, .int .i64 0, .slice none 0 0, .int .i64 0, .int .i64 0, .int .i64 0, .int .i64 0, .int .i64 0, .int .i64 0, .int .i64 0, .int .i64 0, .int .i64 0, .int .i64 0, .slice none 0 0, .int .i64 0] 73 (0, 0) hZ
  have hB' : Hid (Below W.heap.size W (w2.drew.setRow (W.heap.size + 1 + 1) #[.int .i64 0, .int .i64 0, .slice none 0 0, .int .i64 0, .int .i64 0, .int .i64 0, .int .i64 0, .int .i64 0, .int .i64 0, .int .i64 0, .int .i64 0, .int .i64 0, .int .i64 0, .slice none 0 0, .int .i64 0])) := below_setRow S1.out.drew.below (by omega) _
  obtain ⟨w3, hw3⟩ : ∃ w3, w2.drew.setRow (W.heap.size + 1 + 1) #[.int .i64 0, .int .i64 0, .slice none 0 0, .int .i64 0, .int .i64 0, .int .i64 0, .int .i64 0, .int .i64 0, .int .i64 0, .int .i64 0, .int .i64 0, .int .i64 0, .int .i64 0, .slice none 0 0, .int .i64 0] = w3 := ⟨_, rfl⟩
  rw [hw3] at hZ' hB' ⊢
  clear hw3
  go_wp2
  exact bodyPost_ret (results_row_tmp Try.results24 _ _ (W.heap.size + 1 + 1) 73 _ _ (.int .i64 Re) rfl hZ' Try.underlying73 rfl (by kernel_rfl) rfl) rfl ⟨rfl, hB'.out⟩
set_option maxRecDepth 100000 in
set_option maxHeartbeats 4000000 in
theorem bfind_b (h w c lo hi ot op ch : Int) (oa : Option Addr) (on oc : Nat) (O : Nat → Nat → Int) (W : World) (hM : MRow W oa on oc O) (slo shi : Int) (Ra Rw : Int) (RL : List (Int × Int × Int)) (hR : gtR O h w c lo hi ot on = (0, Ra, RL, Rw)) (ho : ¬ (1 ≤ op ∧ op ≤ (on : Int))) :
    Calls Try.prog 24 #[.agg #[.int .i64 h, .int .i64 w, .int .i64 c, .int .i64 lo, .int .i64 hi, .slice oa on oc, .int .i64 ot], .int .i64 op, .int .i64 ch, .agg #[.int .i64 slo, .int .i64 shi]] W fun e w' => e = .returned (.tuple #[.agg #[.int .i64 0, .int .i64 0, .slice none 0 0, .int .i64 0, .int .i64 0, .int .i64 0, .int .i64 0, .int .i64 0, .int .i64 0, .int .i64 0, .int .i64 0, .int .i64 0, .int .i64 0, .slice none 0 0, .int .i64 0], .int .i64 3]) ∧ Below W.heap.size W w' := by
  have hS : Hid (∀ W, MRow W oa on oc O → _) := fun W hW => shapes_any h w c lo hi ot oa on oc O W hW
  rw [hR] at hS
  simp only at hS
  have hM2 : Hid (MRow W oa on oc O) := hM
  have hocm := hM.1
  have hocx := hM.2.1
  unfold maxLen at hocx
  clear hR hM
  have s0 := (((St.start W).new (c := #[.int .i64 h, .int .i64 w, .int .i64 c, .int .i64 lo, .int .i64 hi, .slice oa on oc, .int .i64 ot]) (t := 26)).new (c := #[.int .i64 slo, .int .i64 shi]) (t := 28)).new (c := #[.int .i64 0, .int .i64 0, .slice none 0 0, .int .i64 0, .int .i64 0, .int .i64 0, .int .i64 0, .int .i64 0, .int .i64 0, .int .i64 0, .int .i64 0, .int .i64 0, .int .i64 0, .slice none 0 0, .int .i64 0]) (t := 73)
  simp only [World.size_alloc] at s0
  by_cases ho1 : op < 1
  · go_enter Try.func24, Try.ntmps24
    go_wp2_with fail
    refine Calls.mono (hS.out _ (hM2.out.below s0.below)) ?_
    rintro e w1 ⟨v, rfl, hSh, hb⟩
    have s1 := (s0.call hb).new (c := #[.int .i64 0, .int .i64 Ra, .int .i64 0]) (t := 88)
    obtain ⟨va, vc, rfl⟩ := hSh.slice
    obtain ⟨c1, f1, z1, c2, f2, z2, c3, f3, z3, -⟩ := (s0.call hb).rules
    have ho2 : op < 1 ∨ (on : Int) < op := by omega
    clear hb hSh ho
    go_wp2_with (refine wpList_store_row rfl 73 (.tmp 8) (.tmp 37) rfl (W.heap.size + 1 + 1) #[.int .i64 0, .int .i64 0, .slice none 0 0, .int .i64 0, .int .i64 0, .int .i64 0, .int .i64 0, .int .i64 0, .int .i64 0, .int .i64 0, .int .i64 0, .int .i64 0, .int .i64 0, .slice none 0 0, .int .i64 0] rfl rfl 73 #[.int .i64 0, .int .i64 0, .slice none 0 0, .int .i64 0, .int .i64 0, .int .i64 0, .int .i64 0, .int .i64 0, .int .i64 0, .int .i64 0, .int .i64 0, .int .i64 0, .int .i64 0, .slice none 0 0, .int .i64 0] s1.h2 (by kernel_rfl) rfl (by simp [Value.oneCell']) ?_; have hZ' := setRow_heap _ (W.heap.size + 1 + 1) #[.int .i64 0, .int .i64 0, .slice none 0 0, .int .i64 0, .int .i64 0, .int .i64 0, .int .i64 0, .int .i64 0, .int .i64 0, .int .i64 0, .int .i64 0, .int .i64 0, .int .i64 0, .slice none 0 0, .int .i64 0] #[.int .i64 0, .int .i64 0, .slice none 0 0, .int .i64 0, .int .i64 0, .int .i64 0, .int .i64 0, .int .i64 0, .int .i64 0, .int .i64 0, .int .i64 0, .int .i64 0, .int .i64 0, .slice none 0 0, .int .i64 0] 73 (0, 0) s1.h2; have hB' : Hid (Below W.heap.size W (_ : World)) := below_setRow s1.below (show W.heap.size ≤ W.heap.size + 1 + 1 by omega) #[.int .i64 0, .int .i64 0, .slice none 0 0, .int .i64 0, .int .i64 0, .int .i64 0, .int .i64 0, .int .i64 0, .int .i64 0, .int .i64 0, .int .i64 0, .int .i64 0, .int .i64 0, .slice none 0 0, .int .i64 0]; clear c1 f1 c2 f2 c3 f3; generalize World.setRow _ _ _ = w3 at hZ' hB' ⊢)
    exact bodyPost_ret (results_row_tmp Try.results24 _ _ (W.heap.size + 1 + 1) 73 _ _ (.int .i64 3) rfl hZ' Try.underlying73 rfl (by kernel_rfl) rfl) rfl ⟨rfl, hB'.out⟩
  · go_enter Try.func24, Try.ntmps24
    go_wp2_with fail
    refine Calls.mono (hS.out _ (hM2.out.below s0.below)) ?_
    rintro e w1 ⟨v, rfl, hSh, hb⟩
    have s1 := (s0.call hb).new (c := #[.int .i64 0, .int .i64 Ra, .int .i64 0]) (t := 88)
    obtain ⟨va, vc, rfl⟩ := hSh.slice
    obtain ⟨c1, f1, z1, c2, f2, z2, c3, f3, z3, -⟩ := (s0.call hb).rules
    have ho2 : op < 1 ∨ (on : Int) < op := by omega
    clear hb hSh ho
    go_wp2_with (refine wpList_store_row rfl 73 (.tmp 8) (.tmp 37) rfl (W.heap.size + 1 + 1) #[.int .i64 0, .int .i64 0, .slice none 0 0, .int .i64 0, .int .i64 0, .int .i64 0, .int .i64 0, .int .i64 0, .int .i64 0, .int .i64 0, .int .i64 0, .int .i64 0, .int .i64 0, .slice none 0 0, .int .i64 0] rfl rfl 73 #[.int .i64 0, .int .i64 0, .slice none 0 0, .int .i64 0, .int .i64 0, .int .i64 0, .int .i64 0, .int .i64 0, .int .i64 0, .int .i64 0, .int .i64 0, .int .i64 0, .int .i64 0, .slice none 0 0, .int .i64 0] s1.h2 (by kernel_rfl) rfl (by simp [Value.oneCell']) ?_; have hZ' := setRow_heap _ (W.heap.size + 1 + 1) #[.int .i64 0, .int .i64 0, .slice none 0 0, .int .i64 0, .int .i64 0, .int .i64 0, .int .i64 0, .int .i64 0, .int .i64 0, .int .i64 0, .int .i64 0, .int .i64 0, .int .i64 0, .slice none 0 0, .int .i64 0] #[.int .i64 0, .int .i64 0, .slice none 0 0, .int .i64 0, .int .i64 0, .int .i64 0, .int .i64 0, .int .i64 0, .int .i64 0, .int .i64 0, .int .i64 0, .int .i64 0, .int .i64 0, .slice none 0 0, .int .i64 0] 73 (0, 0) s1.h2; have hB' : Hid (Below W.heap.size W (_ : World)) := below_setRow s1.below (show W.heap.size ≤ W.heap.size + 1 + 1 by omega) #[.int .i64 0, .int .i64 0, .slice none 0 0, .int .i64 0, .int .i64 0, .int .i64 0, .int .i64 0, .int .i64 0, .int .i64 0, .int .i64 0, .int .i64 0, .int .i64 0, .int .i64 0, .slice none 0 0, .int .i64 0]; clear c1 f1 c2 f2 c3 f3; generalize World.setRow _ _ _ = w3 at hZ' hB' ⊢)
    exact bodyPost_ret (results_row_tmp Try.results24 _ _ (W.heap.size + 1 + 1) 73 _ _ (.int .i64 3) rfl hZ' Try.underlying73 rfl (by kernel_rfl) rfl) rfl ⟨rfl, hB'.out⟩
end Go.Proofs.Ytbogpgaifbjahaa
