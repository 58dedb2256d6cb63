/- What find of package terms returns: the op that is asked, with the shapes that it reads and makes; the error. What the document's own functions of an op return: Length, Positions, weight, Bias. Lists of terms in memory: what is read of them, what a call owns; 'make', 'append', a store into one; same of the law. -/
import Derived.Test.YteobcmocjpdcmaaGr01
import Derived.Test.YteobcmocjpdcmaaGr13
import Derived.Test.YteobcmocjpdcmaaGr14
import Derived.Test.YteobcmocjpdcmaaGr15
import Derived.Test.YteobcmocjpdcmaaGr16
import Derived.Test.YteobcmocjpdcmaaGr21
import Derived.Laws.ResultCell
import Derived.Laws.AppendOwnNone
import Derived.BigQuiet
import Derived.LoopN
/- What find of package terms returns: the op that is asked, with the shapes that it reads and makes; the error. -/
namespace Go.Proofs.Yteobcmocjpdcmaa
open Go.ChangeShapes Go.WideShapes Go.ChangeAt Go.RowKit
set_option linter.unusedVariables false
theorem results_row_tmp {P : Program} {fn : Func} {p u : Tmp} {ty : TypeId} (h : fn.results = #[.cell p ty, .tmp u]) (tmps : Array Value) (w : World) (g : Nat) (t : TypeId) (cs : Array Value) (d : TypeDesc) (v : Value)
    (hp : tmps.getD p undef = .pointer (some ⟨g, 0, none⟩)) (hg : w.heap[g]? = some (.cells cs t (0, 0)))
    (hu : P.underlying ty = some d) (hd : (match d with | .struct _ | .array _ _ => true | _ => false) = true) (hi : (P.info? ty).map (·.size) = some cs.size) (hv : tmps.getD u undef = v) :
    (results fn tmps).run P w = .ok (.tuple #[.agg cs, v]) w := by
  rw [Go.results_cell_tmp h, hp, hv]
  simp [asAddr, run_loadVar_row w g t ty cs (0, 0) d hg hu hd hi, Result.andThen]
set_option maxRecDepth 100000 in
set_option maxHeartbeats 4000000 in
theorem find_e (h w c lo hi ot op : Int) (oa : Option Addr) (on oc : Nat) (O : Nat → Nat → Int) (W : World) (hM : MRow W oa on oc O) (Re Ra Rw : Int) (RL : List (Int × Int × Int)) (hR : gtR O h w c lo hi ot on = (Re, Ra, RL, Rw)) (he : Re ≠ 0) :
    Calls Try.prog 22 #[.agg #[.int .i64 h, .int .i64 w, .int .i64 c, .int .i64 lo, .int .i64 hi, .slice oa on oc, .int .i64 ot], .int .i64 op] W fun e w' => e = .returned (.tuple #[.agg #[.int .i64 0, .int .i64 0, .int .i64 0, .int .i64 0, .int .i64 0, .int .i64 0, .int .i64 0, .int .i64 0, .int .i64 0, .int .i64 0, .int .i64 0, .int .i64 0, .slice none 0 0, .slice none 0 0, .int .i64 0, .int .i64 0, .int .i64 0, .int .i64 0, .int .i64 0, .int .i64 0, .int .i64 0, .int .i64 0, .int .i64 0, .int .i64 0, .int .i64 0, .int .i64 0, .int .i64 0, .int .i64 0], .int .i64 Re]) ∧ Below W.heap.size W w' := by
  have hS : Hid (∀ W, MRow W oa on oc O → _) := fun W hW => shapes_any h w c lo hi ot oa on oc O W hW
  rw [hR] at hS
  simp only at hS
  have he' : (Re == 0) = false := by simp [he]
  have hM2 : Hid (MRow W oa on oc O) := hM
  clear hR hM
  have s0 := ((St.start W).new (c := #[.int .i64 h, .int .i64 w, .int .i64 c, .int .i64 lo, .int .i64 hi, .slice oa on oc, .int .i64 ot]) (t := 26)).new (c := #[.int .i64 0, .int .i64 0, .int .i64 0, .int .i64 0, .int .i64 0, .int .i64 0, .int .i64 0, .int .i64 0, .int .i64 0, .int .i64 0, .int .i64 0, .int .i64 0, .slice none 0 0, .slice none 0 0, .int .i64 0, .int .i64 0, .int .i64 0, .int .i64 0, .int .i64 0, .int .i64 0, .int .i64 0, .int .i64 0, .int .i64 0, .int .i64 0, .int .i64 0, .int .i64 0, .int .i64 0, .int .i64 0]) (t := 66)
  simp only [World.size_alloc] at s0
  go_enter Try.func22, Try.ntmps22
  go_wp2_with fail
  refine Calls.mono (hS.out _ (hM2.out.below s0.below)) ?_
  rintro e w1 ⟨v, rfl, hSh, hb⟩
  have s1 := (s0.call hb).new (c := #[.int .i64 Re, .int .i64 Ra, .int .i64 0]) (t := 61)
  obtain ⟨va, vc, rfl⟩ := hSh.slice
  obtain ⟨c1, f1, z1, c2, f2, z2, -⟩ := (s0.call hb).rules
  clear hb hSh
  go_wp2
  obtain ⟨w2, hw2⟩ : ∃ w2, w1.alloc (.cells #[.int .i64 Re, .int .i64 Ra, .int .i64 0] 61) = w2 := ⟨_, rfl⟩
  rw [hw2] at s1 ⊢
  have hF := s1.h1
  have hZ := s1.h2
  have S1 : Hid (St W w2 _) := s1
  clear hw2 s0 s1 c1 f1 c2 f2
  refine regionC (fun w' => w'.heap[w1.heap.size]? = some (.cells #[.int .i64 Re, .int .i64 Ra, .int .i64 0] 61 (0, 0))) (by kernel_rfl) ?_
  refine takeC 0 (v := .agg #[.int .i64 0, .int .i64 0, .int .i64 0, .int .i64 0, .int .i64 0, .int .i64 0, .int .i64 0, .int .i64 0, .int .i64 0, .int .i64 0, .int .i64 0, .int .i64 0, .slice none 0 0, .slice none 0 0, .int .i64 0, .int .i64 0, .int .i64 0, .int .i64 0, .int .i64 0, .int .i64 0, .int .i64 0, .int .i64 0, .int .i64 0, .int .i64 0, .int .i64 0, .int .i64 0, .int .i64 0, .int .i64 0]) rfl rfl (by kernel_rfl) (by kernel_rfl) (by kernel_rfl) (fun _ _ _ h => h) (fun _ => rfl) rfl (fun w' hw' => by kernel_rfl) ?_
  refine takeC 1 (v := .pointer (some ⟨w1.heap.size, 0, none⟩)) rfl rfl (by kernel_rfl) (by kernel_rfl) (by kernel_rfl) (fun _ _ _ h => h) (fun _ => rfl) rfl (fun w' hw' => by go_simp) ?_
  refine takeC 2 (v := .int .i64 Re) rfl rfl (by kernel_rfl) (by kernel_rfl) (by kernel_rfl) (fun _ _ _ h => h) (fun _ => rfl) rfl (fun w' hw' => by have hc := (cells_at hw').1 0; go_simp) ?_
  have hne : w1.heap.size ≠ W.heap.size + 1 := by omega
  refine stepC 3 hF (by kernel_rfl) rfl (fun K hK => step_wp rfl (wp_store_row 66 (.tmp 4) (.tmp 17) rfl (W.heap.size + 1) #[.int .i64 0, .int .i64 0, .int .i64 0, .int .i64 0, .int .i64 0, .int .i64 0, .int .i64 0, .int .i64 0, .int .i64 0, .int .i64 0, .int .i64 0, .int .i64 0, .slice none 0 0, .slice none 0 0, .int .i64 0, .int .i64 0, .int .i64 0, .int .i64 0, .int .i64 0, .int .i64 0, .int .i64 0, .int .i64 0, .int .i64 0, .int .i64 0, .int .i64 0, .int .i64 0, .int .i64 0, .int .i64 0] rfl rfl 66 #[.int .i64 0, .int .i64 0, .int .i64 0, .int .i64 0, .int .i64 0, .int .i64 0, .int .i64 0, .int .i64 0, .int .i64 0, .int .i64 0, .int .i64 0, .int .i64 0, .slice none 0 0, .slice none 0 0, .int .i64 0, .int .i64 0, .int .i64 0, .int .i64 0, .int .i64 0, .int .i64 0, .int .i64 0, .int .i64 0, .int .i64 0, .int .i64 0, .int .i64 0, .int .i64 0, .int .i64 0, .int .i64 0] hZ (by kernel_rfl) rfl (by simp [Value.oneCell']) (hK _ _ ?_)))
  refine takeC 4 (v := .int .i64 Re) rfl rfl (by kernel_rfl) (by kernel_rfl) (by kernel_rfl) (fun _ _ _ h => h) (fun _ => rfl) rfl (fun w' hw' => by go_simp) ?_
  refine doneC ((setRow_other _ _ _ _ hne).trans hF) (by kernel_rfl) ?_ _
  have hZ' := setRow_heap w2.drew (W.heap.size + 1) #[.int .i64 0, .int .i64 0, .int .i64 0, .int .i64 0, .int .i64 0, .int .i64 0, .int .i64 0, .int .i64 0, .int .i64 0, .int .i64 0, .int .i64 0, .int .i64 0, .slice none 0 0, .slice none 0 0, .int .i64 0, .int .i64 0, .int .i64 0, .int .i64 0, .int .i64 0, .int .i64 0, .int .i64 0, .int .i64 0, .int .i64 0, .int .i64 0, .int .i64 0, .int .i64 0, .int .i64 0, .int .i64 0] #[.int .i64 0, .int .i64 0, .int .i64 0, .int .i64 0, .int .i64 0, .int .i64 0, .int .i64 0, .int .i64 0, .int .i64 0, .int .i64 0, .int .i64 0, .int .i64 0, .slice none 0 0, .slice none 0 0, .int .i64 0, .int .i64 0, .int .i64 0, .int .i64 0, .int .i64 0, .int .i64 0, .int .i64 0, .int .i64 0, .int .i64 0, .int .i64 0, .int .i64 0, .int .i64 0, .int .i64 0, .int .i64 0] 66 (0, 0) hZ
  have hB' : Hid (Below W.heap.size W (w2.drew.setRow (W.heap.size + 1) #[.int .i64 0, .int .i64 0, .int .i64 0, .int .i64 0, .int .i64 0, .int .i64 0, .int .i64 0, .int .i64 0, .int .i64 0, .int .i64 0, .int .i64 0, .int .i64 0, .slice none 0 0, .slice none 0 0, .int .i64 0, .int .i64 0, .int .i64 0, .int .i64 0, .int .i64 0, .int .i64 0, .int .i64 0, .int .i64 0, .int .i64 0, .int .i64 0, .int .i64 0, .int .i64 0, .int .i64 0, .int .i64 0])) := below_setRow S1.out.drew.below (by omega) _
  obtain ⟨w3, hw3⟩ : ∃ w3, w2.drew.setRow (W.heap.size + 1) #[.int .i64 0, .int .i64 0, .int .i64 0, .int .i64 0, .int .i64 0, .int .i64 0, .int .i64 0, .int .i64 0, .int .i64 0, .int .i64 0, .int .i64 0, .int .i64 0, .slice none 0 0, .slice none 0 0, .int .i64 0, .int .i64 0, .int .i64 0, .int .i64 0, .int .i64 0, .int .i64 0, .int .i64 0, .int .i64 0, .int .i64 0, .int .i64 0, .int .i64 0, .int .i64 0, .int .i64 0, .int .i64 0] = w3 := ⟨_, rfl⟩
  rw [hw3] at hZ' hB' ⊢
  clear hw3
  go_wp2
  exact bodyPost_ret (results_row_tmp Try.results22 _ _ (W.heap.size + 1) 66 _ _ (.int .i64 Re) rfl hZ' Try.underlying66 rfl (by kernel_rfl) rfl) rfl ⟨rfl, hB'.out⟩
set_option maxRecDepth 100000 in
set_option maxHeartbeats 4000000 in
theorem find_3 (h w c lo hi ot op : Int) (oa : Option Addr) (on oc : Nat) (O : Nat → Nat → Int) (W : World) (hM : MRow W oa on oc O) (Ra Rw : Int) (RL : List (Int × Int × Int)) (hR : gtR O h w c lo hi ot on = (0, Ra, RL, Rw)) (ho : ¬ (1 ≤ op ∧ op ≤ (on : Int))) :
    Calls Try.prog 22 #[.agg #[.int .i64 h, .int .i64 w, .int .i64 c, .int .i64 lo, .int .i64 hi, .slice oa on oc, .int .i64 ot], .int .i64 op] W fun e w' => e = .returned (.tuple #[.agg #[.int .i64 0, .int .i64 0, .int .i64 0, .int .i64 0, .int .i64 0, .int .i64 0, .int .i64 0, .int .i64 0, .int .i64 0, .int .i64 0, .int .i64 0, .int .i64 0, .slice none 0 0, .slice none 0 0, .int .i64 0, .int .i64 0, .int .i64 0, .int .i64 0, .int .i64 0, .int .i64 0, .int .i64 0, .int .i64 0, .int .i64 0, .int .i64 0, .int .i64 0, .int .i64 0, .int .i64 0, .int .i64 0], .int .i64 3]) ∧ Below W.heap.size W w' := by
  have hS : Hid (∀ W, MRow W oa on oc O → _) := fun W hW => shapes_any h w c lo hi ot oa on oc O W hW
  rw [hR] at hS
  simp only at hS
  have hM2 : Hid (MRow W oa on oc O) := hM
  have hocm := hM.1
  have hocx := hM.2.1
  unfold maxLen at hocx
  clear hR hM
  have s0 := ((St.start W).new (c := #[.int .i64 h, .int .i64 w, .int .i64 c, .int .i64 lo, .int .i64 hi, .slice oa on oc, .int .i64 ot]) (t := 26)).new (c := #[.int .i64 0, .int .i64 0, .int .i64 0, .int .i64 0, .int .i64 0, .int .i64 0, .int .i64 0, .int .i64 0, .int .i64 0, .int .i64 0, .int .i64 0, .int .i64 0, .slice none 0 0, .slice none 0 0, .int .i64 0, .int .i64 0, .int .i64 0, .int .i64 0, .int .i64 0, .int .i64 0, .int .i64 0, .int .i64 0, .int .i64 0, .int .i64 0, .int .i64 0, .int .i64 0, .int .i64 0, .int .i64 0]) (t := 66)
  simp only [World.size_alloc] at s0
  by_cases ho1 : op < 1
  · go_enter Try.func22, Try.ntmps22
    go_wp2_with fail
    refine Calls.mono (hS.out _ (hM2.out.below s0.below)) ?_
    rintro e w1 ⟨v, rfl, hSh, hb⟩
    have s1 := (s0.call hb).new (c := #[.int .i64 0, .int .i64 Ra, .int .i64 0]) (t := 61)
    obtain ⟨va, vc, rfl⟩ := hSh.slice
    obtain ⟨c1, f1, z1, c2, f2, z2, -⟩ := (s0.call hb).rules
    have ho2 : op < 1 ∨ (on : Int) < op := by omega
    clear hb hSh ho
    go_wp2_with (refine wpList_store_row rfl 66 (.tmp 4) (.tmp 29) rfl (W.heap.size + 1) #[.int .i64 0, .int .i64 0, .int .i64 0, .int .i64 0, .int .i64 0, .int .i64 0, .int .i64 0, .int .i64 0, .int .i64 0, .int .i64 0, .int .i64 0, .int .i64 0, .slice none 0 0, .slice none 0 0, .int .i64 0, .int .i64 0, .int .i64 0, .int .i64 0, .int .i64 0, .int .i64 0, .int .i64 0, .int .i64 0, .int .i64 0, .int .i64 0, .int .i64 0, .int .i64 0, .int .i64 0, .int .i64 0] rfl rfl 66 #[.int .i64 0, .int .i64 0, .int .i64 0, .int .i64 0, .int .i64 0, .int .i64 0, .int .i64 0, .int .i64 0, .int .i64 0, .int .i64 0, .int .i64 0, .int .i64 0, .slice none 0 0, .slice none 0 0, .int .i64 0, .int .i64 0, .int .i64 0, .int .i64 0, .int .i64 0, .int .i64 0, .int .i64 0, .int .i64 0, .int .i64 0, .int .i64 0, .int .i64 0, .int .i64 0, .int .i64 0, .int .i64 0] s1.h2 (by kernel_rfl) rfl (by simp [Value.oneCell']) ?_; have hZ' := setRow_heap _ (W.heap.size + 1) #[.int .i64 0, .int .i64 0, .int .i64 0, .int .i64 0, .int .i64 0, .int .i64 0, .int .i64 0, .int .i64 0, .int .i64 0, .int .i64 0, .int .i64 0, .int .i64 0, .slice none 0 0, .slice none 0 0, .int .i64 0, .int .i64 0, .int .i64 0, .int .i64 0, .int .i64 0, .int .i64 0, .int .i64 0, .int .i64 0, .int .i64 0, .int .i64 0, .int .i64 0, .int .i64 0, .int .i64 0, .int .i64 0] #[.int .i64 0, .int .i64 0, .int .i64 0, .int .i64 0, .int .i64 0, .int .i64 0, .int .i64 0, .int .i64 0, .int .i64 0, .int .i64 0, .int .i64 0, .int .i64 0, .slice none 0 0, .slice none 0 0, .int .i64 0, .int .i64 0, .int .i64 0, .int .i64 0, .int .i64 0, .int .i64 0, .int .i64 0, .int .i64 0, .int .i64 0, .int .i64 0, .int .i64 0, .int .i64 0, .int .i64 0, .int .i64 0] 66 (0, 0) s1.h2; have hB' : Hid (Below W.heap.size W (_ : World)) := below_setRow s1.below (show W.heap.size ≤ W.heap.size + 1 by omega) #[.int .i64 0, .int .i64 0, .int .i64 0, .int .i64 0, .int .i64 0, .int .i64 0, .int .i64 0, .int .i64 0, .int .i64 0, .int .i64 0, .int .i64 0, .int .i64 0, .slice none 0 0, .slice none 0 0, .int .i64 0, .int .i64 0, .int .i64 0, .int .i64 0, .int .i64 0, .int .i64 0, .int .i64 0, .int .i64 0, .int .i64 0, .int .i64 0, .int .i64 0, .int .i64 0, .int .i64 0, .int .i64 0]; clear c1 f1 c2 f2; generalize World.setRow _ _ _ = w3 at hZ' hB' ⊢)
    exact bodyPost_ret (results_row_tmp Try.results22 _ _ (W.heap.size + 1) 66 _ _ (.int .i64 3) rfl hZ' Try.underlying66 rfl (by kernel_rfl) rfl) rfl ⟨rfl, hB'.out⟩
  · go_enter Try.func22, Try.ntmps22
    go_wp2_with fail
    refine Calls.mono (hS.out _ (hM2.out.below s0.below)) ?_
    rintro e w1 ⟨v, rfl, hSh, hb⟩
    have s1 := (s0.call hb).new (c := #[.int .i64 0, .int .i64 Ra, .int .i64 0]) (t := 61)
    obtain ⟨va, vc, rfl⟩ := hSh.slice
    obtain ⟨c1, f1, z1, c2, f2, z2, -⟩ := (s0.call hb).rules
    have ho2 : op < 1 ∨ (on : Int) < op := by omega
    clear hb hSh ho
    go_wp2_with (refine wpList_store_row rfl 66 (.tmp 4) (.tmp 29) rfl (W.heap.size + 1) #[.int .i64 0, .int .i64 0, .int .i64 0, .int .i64 0, .int .i64 0, .int .i64 0, .int .i64 0, .int .i64 0, .int .i64 0, .int .i64 0, .int .i64 0, .int .i64 0, .slice none 0 0, .slice none 0 0, .int .i64 0, .int .i64 0, .int .i64 0, .int .i64 0, .int .i64 0, .int .i64 0, .int .i64 0, .int .i64 0, .int .i64 0, .int .i64 0, .int .i64 0, .int .i64 0, .int .i64 0, .int .i64 0] rfl rfl 66 #[.int .i64 0, .int .i64 0, .int .i64 0, .int .i64 0, .int .i64 0, .int .i64 0, .int .i64 0, .int .i64 0, .int .i64 0, .int .i64 0, .int .i64 0, .int .i64 0, .slice none 0 0, .slice none 0 0, .int .i64 0, .int .i64 0, .int .i64 0, .int .i64 0, .int .i64 0, .int .i64 0, .int .i64 0, .int .i64 0, .int .i64 0, .int .i64 0, .int .i64 0, .int .i64 0, .int .i64 0, .int .i64 0] s1.h2 (by kernel_rfl) rfl (by simp [Value.oneCell']) ?_; have hZ' := setRow_heap _ (W.heap.size + 1) #[.int .i64 0, .int .i64 0, .int .i64 0, .int .i64 0, .int .i64 0, .int .i64 0, .int .i64 0, .int .i64 0, .int .i64 0, .int .i64 0, .int .i64 0, .int .i64 0, .slice none 0 0, .slice none 0 0, .int .i64 0, .int .i64 0, .int .i64 0, .int .i64 0, .int .i64 0, .int .i64 0, .int .i64 0, .int .i64 0, .int .i64 0, .int .i64 0, .int .i64 0, .int .i64 0, .int .i64 0, .int .i64 0] #[.int .i64 0, .int .i64 0, .int .i64 0, .int .i64 0, .int .i64 0, .int .i64 0, .int .i64 0, .int .i64 0, .int .i64 0, .int .i64 0, .int .i64 0, .int .i64 0, .slice none 0 0, .slice none 0 0, .int .i64 0, .int .i64 0, .int .i64 0, .int .i64 0, .int .i64 0, .int .i64 0, .int .i64 0, .int .i64 0, .int .i64 0, .int .i64 0, .int .i64 0, .int .i64 0, .int .i64 0, .int .i64 0] 66 (0, 0) s1.h2; have hB' : Hid (Below W.heap.size W (_ : World)) := below_setRow s1.below (show W.heap.size ≤ W.heap.size + 1 by omega) #[.int .i64 0, .int .i64 0, .int .i64 0, .int .i64 0, .int .i64 0, .int .i64 0, .int .i64 0, .int .i64 0, .int .i64 0, .int .i64 0, .int .i64 0, .int .i64 0, .slice none 0 0, .slice none 0 0, .int .i64 0, .int .i64 0, .int .i64 0, .int .i64 0, .int .i64 0, .int .i64 0, .int .i64 0, .int .i64 0, .int .i64 0, .int .i64 0, .int .i64 0, .int .i64 0, .int .i64 0, .int .i64 0]; clear c1 f1 c2 f2; generalize World.setRow _ _ _ = w3 at hZ' hB' ⊢)
    exact bodyPost_ret (results_row_tmp Try.results22 _ _ (W.heap.size + 1) 66 _ _ (.int .i64 3) rfl hZ' Try.underlying66 rfl (by kernel_rfl) rfl) rfl ⟨rfl, hB'.out⟩
end Go.Proofs.Yteobcmocjpdcmaa

/- What the document's own functions of an op return: Length, Positions, weight, Bias. -/
namespace Go.Proofs.Yteobcmocjpdcmaa
open Go.ChangeShapes Go.WideShapes Go.ChangeAt Go.RowKit
set_option linter.unusedVariables false
theorem list_cells {w : World} {B : Nat} {cs : Array Value} {T : TypeId} (h : w.heap[B]? = some (.cells cs T (0, 0))) {l : List Value} (hl : ∀ (q : Nat) (v : Value), l[q]? = some v → cs[q]? = some v) : ∀ (q : Nat) (v : Value), l[q]? = some v → w.cell? ((⟨B, 0, none⟩ : Addr).add q) = some v := fun q v hq => by
  rw [Addr.add_lit, Nat.zero_add, (cells_at h).1]
  exact hl q v hq
theorem front_get (l r : List Value) : ∀ (q : Nat) (v : Value), l[q]? = some v → (l ++ r).toArray[q]? = some v := fun q v hq => by
  have := (List.getElem?_eq_some_iff.1 hq).1
  rw [List.getElem?_toArray, List.getElem?_append_left this]
  exact hq
set_option maxRecDepth 100000 in
set_option maxHeartbeats 2000000 in
theorem rlen_any (k a b m kh kw sh sw tp lf bt rt : Int) (wa : Option Addr) (lw wc : Nat) (ba : Option Addr) (lb bc : Nat) (sm ss um us z p lo hi h w c H V C : Int) (W : World) (s : Sit k kh kw sh sw tp lf bt rt h w c H V C lw lb) :
    Calls Try.prog 12 #[.agg #[.int .i64 k, .int .i64 a, .int .i64 b, .int .i64 m, .int .i64 kh, .int .i64 kw, .int .i64 sh, .int .i64 sw, .int .i64 tp, .int .i64 lf, .int .i64 bt, .int .i64 rt, .slice wa lw wc, .slice ba lb bc, .int .i64 sm, .int .i64 ss, .int .i64 um, .int .i64 us, .int .i64 z, .int .i64 p, .int .i64 lo, .int .i64 hi, .int .i64 h, .int .i64 w, .int .i64 c, .int .i64 H, .int .i64 V, .int .i64 C]] W fun e w' => e = .returned (.int .i64 (stR k kh kw h w c)) ∧ Below W.heap.size W w' := by
  have s0 := (St.start W).new (c := #[.int .i64 k, .int .i64 a, .int .i64 b, .int .i64 m, .int .i64 kh, .int .i64 kw, .int .i64 sh, .int .i64 sw, .int .i64 tp, .int .i64 lf, .int .i64 bt, .int .i64 rt, .slice wa lw wc, .slice ba lb bc, .int .i64 sm, .int .i64 ss, .int .i64 um, .int .i64 us, .int .i64 z, .int .i64 p, .int .i64 lo, .int .i64 hi, .int .i64 h, .int .i64 w, .int .i64 c, .int .i64 H, .int .i64 V, .int .i64 C]) (t := 36)
  have hL : Hid (∀ W', _) := fun W' => length_any k a b m kh kw sh sw tp lf bt rt wa lw wc ba lb bc sm ss um us z p lo hi h w c W' (decide_eq_true s.1) s.2.1 (fun q => s.2.2.2.2.2.1 (by omega))
  have hC : Hid (∀ q v, [.int .i64 k, .int .i64 a, .int .i64 b, .int .i64 m, .int .i64 kh, .int .i64 kw, .int .i64 sh, .int .i64 sw, .int .i64 tp, .int .i64 lf, .int .i64 bt, .int .i64 rt, .slice wa lw wc, .slice ba lb bc, .int .i64 sm, .int .i64 ss, .int .i64 um, .int .i64 us, .int .i64 z, .int .i64 p, .int .i64 lo, .int .i64 hi][q]? = some v → (W.alloc (.cells #[.int .i64 k, .int .i64 a, .int .i64 b, .int .i64 m, .int .i64 kh, .int .i64 kw, .int .i64 sh, .int .i64 sw, .int .i64 tp, .int .i64 lf, .int .i64 bt, .int .i64 rt, .slice wa lw wc, .slice ba lb bc, .int .i64 sm, .int .i64 ss, .int .i64 um, .int .i64 us, .int .i64 z, .int .i64 p, .int .i64 lo, .int .i64 hi, .int .i64 h, .int .i64 w, .int .i64 c, .int .i64 H, .int .i64 V, .int .i64 C] 36)).cell? ((⟨W.heap.size, 0, none⟩ : Addr).add q) = some v) := list_cells (heap_alloc_new W _) (front_get [.int .i64 k, .int .i64 a, .int .i64 b, .int .i64 m, .int .i64 kh, .int .i64 kw, .int .i64 sh, .int .i64 sw, .int .i64 tp, .int .i64 lf, .int .i64 bt, .int .i64 rt, .slice wa lw wc, .slice ba lb bc, .int .i64 sm, .int .i64 ss, .int .i64 um, .int .i64 us, .int .i64 z, .int .i64 p, .int .i64 lo, .int .i64 hi] [.int .i64 h, .int .i64 w, .int .i64 c, .int .i64 H, .int .i64 V, .int .i64 C])
  clear s
  go_enter Try.func12, Try.ntmps12
  go_wp2_with (refine wpList_load_any rfl 34 (.tmp 3) rfl _ rfl [.int .i64 k, .int .i64 a, .int .i64 b, .int .i64 m, .int .i64 kh, .int .i64 kw, .int .i64 sh, .int .i64 sw, .int .i64 tp, .int .i64 lf, .int .i64 bt, .int .i64 rt, .slice wa lw wc, .slice ba lb bc, .int .i64 sm, .int .i64 ss, .int .i64 um, .int .i64 us, .int .i64 z, .int .i64 p, .int .i64 lo, .int .i64 hi] _ hC.out Try.underlying34 rfl (by kernel_rfl) ?_)
  refine (hL.out _).mono ?_
  rintro e w1 ⟨rfl, hb⟩
  have s1 := s0.call hb
  clear hb
  go_wp2
  go_ret
  exact ⟨rfl, s1.below⟩
set_option maxHeartbeats 2000000 in
theorem rpos_any (k a b m kh kw sh sw tp lf bt rt : Int) (wa : Option Addr) (lw wc : Nat) (ba : Option Addr) (lb bc : Nat) (sm ss um us z p lo hi h w c H V C : Int) (W : World) (g : vS H V C = true) :
    Calls Try.prog 13 #[.agg #[.int .i64 k, .int .i64 a, .int .i64 b, .int .i64 m, .int .i64 kh, .int .i64 kw, .int .i64 sh, .int .i64 sw, .int .i64 tp, .int .i64 lf, .int .i64 bt, .int .i64 rt, .slice wa lw wc, .slice ba lb bc, .int .i64 sm, .int .i64 ss, .int .i64 um, .int .i64 us, .int .i64 z, .int .i64 p, .int .i64 lo, .int .i64 hi, .int .i64 h, .int .i64 w, .int .i64 c, .int .i64 H, .int .i64 V, .int .i64 C]] W fun e w' => e = .returned (.int .i64 (H * V)) ∧ Below W.heap.size W w' := by
  have s0 := (St.start W).new (c := #[.int .i64 k, .int .i64 a, .int .i64 b, .int .i64 m, .int .i64 kh, .int .i64 kw, .int .i64 sh, .int .i64 sw, .int .i64 tp, .int .i64 lf, .int .i64 bt, .int .i64 rt, .slice wa lw wc, .slice ba lb bc, .int .i64 sm, .int .i64 ss, .int .i64 um, .int .i64 us, .int .i64 z, .int .i64 p, .int .i64 lo, .int .i64 hi, .int .i64 h, .int .i64 w, .int .i64 c, .int .i64 H, .int .i64 V, .int .i64 C]) (t := 36)
  have p3 := vS_bd g
  clear g
  go_enter Try.func13, Try.ntmps13
  go_wp2
  go_ret
  exact ⟨rfl, s0.below⟩
set_option maxHeartbeats 2000000 in
theorem rbias_any (k a b m kh kw sh sw tp lf bt rt : Int) (wa : Option Addr) (lw wc : Nat) (ba : Option Addr) (lb bc : Nat) (sm ss um us z p lo hi h w c H V C : Int) (W : World) (bs : List Int) (hB : IRow .i32 W ba lb bc bs) (s : Sit k kh kw sh sw tp lf bt rt h w c H V C lw lb) (ch : Int) (hc : 1 ≤ ch ∧ ch ≤ C) :
    Calls Try.prog 18 #[.agg #[.int .i64 k, .int .i64 a, .int .i64 b, .int .i64 m, .int .i64 kh, .int .i64 kw, .int .i64 sh, .int .i64 sw, .int .i64 tp, .int .i64 lf, .int .i64 bt, .int .i64 rt, .slice wa lw wc, .slice ba lb bc, .int .i64 sm, .int .i64 ss, .int .i64 um, .int .i64 us, .int .i64 z, .int .i64 p, .int .i64 lo, .int .i64 hi, .int .i64 h, .int .i64 w, .int .i64 c, .int .i64 H, .int .i64 V, .int .i64 C], .int .i64 ch] W fun e w' => e = .returned (.int .i64 (biA k ch bs)) ∧ Below W.heap.size W w' := by
  have s0 := (St.start W).new (c := #[.int .i64 k, .int .i64 a, .int .i64 b, .int .i64 m, .int .i64 kh, .int .i64 kw, .int .i64 sh, .int .i64 sw, .int .i64 tp, .int .i64 lf, .int .i64 bt, .int .i64 rt, .slice wa lw wc, .slice ba lb bc, .int .i64 sm, .int .i64 ss, .int .i64 um, .int .i64 us, .int .i64 z, .int .i64 p, .int .i64 lo, .int .i64 hi, .int .i64 h, .int .i64 w, .int .i64 c, .int .i64 H, .int .i64 V, .int .i64 C]) (t := 36)
  obtain ⟨hk, -, hv, -, -, -, hl, -⟩ := s
  have hC := (vS_yes hv).2.2.1
  by_cases k4 : k = 4
  · subst k4
    rw [show biA 4 ch bs = 0 from if_pos rfl]
    go_enter Try.func18, Try.ntmps18
    go_wp2
    go_ret
    exact ⟨rfl, s0.below⟩
  · rw [show biA k ch bs = bs.getD (ch - 1).toNat 0 from if_neg k4]
    have hl2 := (hl (by omega)).2
    obtain ⟨n, rfl⟩ : ∃ n : Nat, ch = (n : Int) + 1 := ⟨(ch - 1).toNat, by omega⟩
    have hm := hB.2.2.1
    have hcc := hB.2.1
    unfold maxLen at hm
    obtain ⟨x, u, rfl, hu, hwf, hz, -⟩ := (hB.below s0.below).at (show n < lb by omega)
    obtain ⟨u1, u2⟩ := wf_i32 hwf
    have e : bs.getD ((n : Int) + 1 - 1).toNat 0 = u := by rw [show ((n : Int) + 1 - 1).toNat = n by omega, List.getD_eq_getElem?_getD, hz]; rfl
    rw [e]
    have k4' : (k == 4) = false := by simp [k4]
    have HB : Hid (Below W.heap.size W _) := s0.below
    obtain ⟨c1, f1, z1, -⟩ := s0.rules
    clear e hz hwf hB hl
    go_enter Try.func18, Try.ntmps18
    go_wp2
    go_ret
    exact ⟨rfl, HB.out⟩
set_option maxRecDepth 100000 in
set_option maxHeartbeats 4000000 in
theorem rwei_any (k a b m kh kw sh sw tp lf bt rt : Int) (wa : Option Addr) (lw wc : Nat) (ba : Option Addr) (lb bc : Nat) (sm ss um us z p lo hi h w c H V C : Int) (W : World) (zs : List Int) (hZ : IRow .i16 W wa lw wc zs) (s : Sit k kh kw sh sw tp lf bt rt h w c H V C lw lb) (ch : Int) (hc : 1 ≤ ch ∧ ch ≤ C) (i : Nat) (hi0 : (i : Int) < stR k kh kw h w c) :
    Calls Try.prog 30 #[.agg #[.int .i64 k, .int .i64 a, .int .i64 b, .int .i64 m, .int .i64 kh, .int .i64 kw, .int .i64 sh, .int .i64 sw, .int .i64 tp, .int .i64 lf, .int .i64 bt, .int .i64 rt, .slice wa lw wc, .slice ba lb bc, .int .i64 sm, .int .i64 ss, .int .i64 um, .int .i64 us, .int .i64 z, .int .i64 p, .int .i64 lo, .int .i64 hi, .int .i64 h, .int .i64 w, .int .i64 c, .int .i64 H, .int .i64 V, .int .i64 C], .int .i64 ch, .int .i64 i] W fun e w' => e = .returned (.int .i64 (wgA k ch (stR k kh kw h w c) zs i)) ∧ Below W.heap.size W w' := by
  have hL : Hid (∀ W', Calls Try.prog 12 #[.agg #[.int .i64 k, .int .i64 a, .int .i64 b, .int .i64 m, .int .i64 kh, .int .i64 kw, .int .i64 sh, .int .i64 sw, .int .i64 tp, .int .i64 lf, .int .i64 bt, .int .i64 rt, .slice wa lw wc, .slice ba lb bc, .int .i64 sm, .int .i64 ss, .int .i64 um, .int .i64 us, .int .i64 z, .int .i64 p, .int .i64 lo, .int .i64 hi, .int .i64 h, .int .i64 w, .int .i64 c, .int .i64 H, .int .i64 V, .int .i64 C]] W' fun e w' => e = .returned (.int .i64 (stR k kh kw h w c)) ∧ Below W'.heap.size W' w') := fun W' => rlen_any k a b m kh kw sh sw tp lf bt rt wa lw wc ba lb bc sm ss um us z p lo hi h w c H V C W' s
  have s0 := (St.start W).new (c := #[.int .i64 k, .int .i64 a, .int .i64 b, .int .i64 m, .int .i64 kh, .int .i64 kw, .int .i64 sh, .int .i64 sw, .int .i64 tp, .int .i64 lf, .int .i64 bt, .int .i64 rt, .slice wa lw wc, .slice ba lb bc, .int .i64 sm, .int .i64 ss, .int .i64 um, .int .i64 us, .int .i64 z, .int .i64 p, .int .i64 lo, .int .i64 hi, .int .i64 h, .int .i64 w, .int .i64 c, .int .i64 H, .int .i64 V, .int .i64 C]) (t := 36)
  obtain ⟨hk, -, hv, -, -, -, hl, -, hst0, hst1⟩ := s
  have hC := (vS_yes hv).2.2.1
  obtain ⟨st, hst⟩ : ∃ st, stR k kh kw h w c = st := ⟨_, rfl⟩
  rw [hst] at hL hl hst0 hst1 hi0 ⊢
  clear hst hv
  by_cases k4 : k = 4
  · subst k4
    rw [show wgA 4 ch st zs i = 1 from if_pos rfl]
    go_enter Try.func30, Try.ntmps30
    go_wp2
    go_ret
    exact ⟨rfl, s0.below⟩
  · rw [show wgA k ch st zs i = zs.getD ((ch - 1) * st + i).toNat 0 from if_neg k4]
    have hl2 := (hl (by omega)).1
    obtain ⟨d, rfl⟩ : ∃ d : Nat, ch = (d : Int) + 1 := ⟨(ch - 1).toNat, by omega⟩
    have hm := hZ.2.2.1
    have hcc := hZ.2.1
    unfold maxLen at hm
    have p1 : 0 ≤ (d : Int) * st := Int.mul_nonneg (by omega) (by omega)
    have p2 : (d : Int) * st + st ≤ C * st := by
      have := Int.mul_le_mul_of_nonneg_right (show (d : Int) + 1 ≤ C by omega) (show 0 ≤ st by omega)
      rwa [Int.add_mul, Int.one_mul] at this
    obtain ⟨p', ep⟩ : ∃ p', (d : Int) * st = p' := ⟨_, rfl⟩
    rw [show (d : Int) + 1 - 1 = d by omega, ep]
    rw [ep] at p1 p2
    rw [← hl2] at p2
    obtain ⟨N, eN⟩ : ∃ N : Nat, p' + (i : Int) = (N : Int) := ⟨(p' + i).toNat, by omega⟩
    rw [eN]
    have hN : N < lw := by omega
    have hZ2 := hZ.below s0.below
    obtain ⟨x, u, rfl, hu, hwf, hz, -⟩ := hZ2.at hN
    obtain ⟨u1, u2⟩ := wf_i16 hwf
    have e : zs.getD ((N : Int)).toNat 0 = u := by rw [Int.toNat_natCast, List.getD_eq_getElem?_getD, hz]; rfl
    rw [e]
    have k4' : (k == 4) = false := by simp [k4]
    have hd1 : (d : Int) + 1 ≤ 1024 := by omega
    have hi2 : (i : Int) ≤ 512 := by omega
    have hNl : (N : Int) < (lw : Int) := by omega
    clear e hz hwf hl hl2 hC hc hZ hZ2
    go_enter Try.func30, Try.ntmps30
    go_upto_region 3 with fail
    obtain ⟨wv, hwv⟩ : ∃ wv, W.alloc (.cells #[.int .i64 k, .int .i64 a, .int .i64 b, .int .i64 m, .int .i64 kh, .int .i64 kw, .int .i64 sh, .int .i64 sw, .int .i64 tp, .int .i64 lf, .int .i64 bt, .int .i64 rt, .slice (some x) lw wc, .slice ba lb bc, .int .i64 sm, .int .i64 ss, .int .i64 um, .int .i64 us, .int .i64 z, .int .i64 p, .int .i64 lo, .int .i64 hi, .int .i64 h, .int .i64 w, .int .i64 c, .int .i64 H, .int .i64 V, .int .i64 C] 36) = wv := ⟨_, rfl⟩
    rw [hwv] at s0 hu ⊢
    have hbel : Hid (Below W.heap.size W wv) := s0.below
    have hG := s0.h1
    have hGz := lt_of_heap hG
    have hux : Hid ((x.add N).block < wv.heap.size) := World.block_lt_of_cell? _ _ hu
    clear s0 hwv
    refine regionC (fun w' => Below wv.heap.size wv w') (by kernel_rfl) ?_
    obtain ⟨wd, hwd⟩ : ∃ wd, wv.drew = wd := ⟨_, rfl⟩
    have HD : Hid (Below wv.heap.size wv wd) := by unfold Hid; rw [← hwd]; exact (Below.refl _ _).drew
    rw [hwd]
    clear hwd
    refine takeC 0 (v := .pointer (some ⟨W.heap.size, 0, none⟩)) rfl rfl (by kernel_rfl) (by kernel_rfl) (by kernel_rfl) (fun _ _ _ h => h) (fun _ => rfl) rfl (fun w' hw' => by go_simp) ?_
    refine takeC 1 (v := .pointer (some ⟨W.heap.size, 12, none⟩)) rfl rfl (by kernel_rfl) (by kernel_rfl) (by kernel_rfl) (fun _ _ _ h => h) (fun _ => rfl) rfl (fun w' hw' => by go_simp) ?_
    refine takeC 2 (v := .slice (some x) lw wc) rfl rfl (by kernel_rfl) (by kernel_rfl) (by kernel_rfl) (fun _ _ _ h => h) (fun _ => rfl) rfl (fun w' hw' => by have hc := (cells_at ((hw'.block _ hGz).trans hG)).1 12; go_simp) ?_
    refine takeC 3 (v := .int .i64 ((d : Int) + 1)) rfl rfl (by kernel_rfl) (by kernel_rfl) (by kernel_rfl) (fun _ _ _ h => h) (fun _ => rfl) rfl (fun w' hw' => by go_simp) ?_
    refine takeC 4 (v := .int .i64 (d : Int)) rfl rfl (by kernel_rfl) (by kernel_rfl) (by kernel_rfl) (fun _ _ _ h => h) (fun _ => rfl) rfl (fun w' hw' => by go_simp; rw [IntKind.wrap_i64]; omega) ?_
    refine takeC 5 (v := .agg #[.int .i64 k, .int .i64 a, .int .i64 b, .int .i64 m, .int .i64 kh, .int .i64 kw, .int .i64 sh, .int .i64 sw, .int .i64 tp, .int .i64 lf, .int .i64 bt, .int .i64 rt, .slice (some x) lw wc, .slice ba lb bc, .int .i64 sm, .int .i64 ss, .int .i64 um, .int .i64 us, .int .i64 z, .int .i64 p, .int .i64 lo, .int .i64 hi, .int .i64 h, .int .i64 w, .int .i64 c, .int .i64 H, .int .i64 V, .int .i64 C]) rfl rfl (by kernel_rfl) (by kernel_rfl) (by kernel_rfl) (fun _ _ _ h => h) (fun _ => rfl) rfl (fun w' hw' => run_la 36 (.tmp 3) rfl ⟨W.heap.size, 0, none⟩ (by kernel_rfl) [.int .i64 k, .int .i64 a, .int .i64 b, .int .i64 m, .int .i64 kh, .int .i64 kw, .int .i64 sh, .int .i64 sw, .int .i64 tp, .int .i64 lf, .int .i64 bt, .int .i64 rt, .slice (some x) lw wc, .slice ba lb bc, .int .i64 sm, .int .i64 ss, .int .i64 um, .int .i64 us, .int .i64 z, .int .i64 p, .int .i64 lo, .int .i64 hi, .int .i64 h, .int .i64 w, .int .i64 c, .int .i64 H, .int .i64 V, .int .i64 C] _ (list_cells ((hw'.block _ hGz).trans hG) (fun q v hq => by simpa using hq)) Try.underlying36 rfl (by kernel_rfl)) ?_
    refine takeC 8 (v := .int .i64 (i : Int)) rfl rfl (by kernel_rfl) (by kernel_rfl) (by kernel_rfl) (fun _ _ _ h => h) (fun _ => rfl) rfl (fun w' hw' => by go_simp) ?_
    refine stepC 6 HD.out (by kernel_rfl) rfl (fun K hK => step_wp rfl ?_)
    go_simp
    refine (hL.out _).mono ?_
    rintro e w3 ⟨rfl, hb3⟩
    refine hK _ _ ?_
    clear hK K
    have H3 : Hid (Below wv.heap.size wv w3) := HD.out.trans (hb3.mono HD.out.size)
    clear hb3 HD
    refine takeC 7 (v := .int .i64 p') rfl rfl (by kernel_rfl) (by kernel_rfl) (by kernel_rfl) (fun _ _ _ h => h) (fun _ => rfl) rfl (fun w' hw' => by go_simp; try (rw [IntKind.wrap_i64]; omega)) ?_
    refine takeC 9 (v := .int .i64 (N : Int)) rfl rfl (by kernel_rfl) (by kernel_rfl) (by kernel_rfl) (fun _ _ _ h => h) (fun _ => rfl) rfl (fun w' hw' => by go_simp; try (rw [IntKind.wrap_i64]; omega)) ?_
    refine takeC 10 (v := .pointer (some (x.add N))) rfl rfl (by kernel_rfl) (by kernel_rfl) (by kernel_rfl) (fun _ _ _ h => h) (fun _ => rfl) rfl (fun w' hw' => by go_simp) ?_
    refine takeC 11 (v := .int .i16 u) rfl rfl (by kernel_rfl) (by kernel_rfl) (by kernel_rfl) (fun _ _ _ h => h) (fun _ => rfl) rfl (fun w' hw' => by have hc := (hw'.cell hux.out).trans hu; go_simp) ?_
    refine takeC 12 (v := .int .i64 u) rfl rfl (by kernel_rfl) (by kernel_rfl) (by kernel_rfl) (fun _ _ _ h => h) (fun _ => rfl) rfl (fun w' hw' => by go_simp; try (rw [IntKind.wrap_i64]; omega)) ?_
    refine takeC 13 (v := .int .i64 u) rfl rfl (by kernel_rfl) (by kernel_rfl) (by kernel_rfl) (fun _ _ _ h => h) (fun _ => rfl) rfl (fun w' hw' => by go_simp) ?_
    refine doneC H3.out (by kernel_rfl) ?_ _
    go_wp2
    go_ret
    exact ⟨rfl, hbel.out.trans (H3.out.mono hbel.out.size)⟩
end Go.Proofs.Yteobcmocjpdcmaa

/- Lists of terms in memory: what is read of them, what a call owns; 'make', 'append', a store into one; same of the law. -/
namespace Go.Proofs.Yteobcmocjpdcmaa
open Go.ChangeShapes Go.WideShapes Go.ChangeAt Go.RowKit
set_option linter.unusedVariables false
def p2 : List (Int × Int) → List Value
  | [] => []
  | s :: l => .int .i64 s.1 :: .int .i64 s.2 :: p2 l
theorem p2_len : ∀ l : List (Int × Int), (p2 l).length = l.length * 2
  | [] => rfl
  | s :: l => by simp only [p2, List.length_cons, p2_len l]; omega
theorem p2_app : ∀ l r : List (Int × Int), p2 (l ++ r) = p2 l ++ p2 r
  | [], _ => rfl
  | s :: l, r => by simp only [List.cons_append, p2, p2_app l r]
theorem p2_one : ∀ l : List (Int × Int), ∀ u ∈ p2 l, u.oneCell' = true
  | [], u, h => by cases h
  | s :: l, u, h => by
    simp only [p2, List.mem_cons] at h
    rcases h with rfl | rfl | h
    · rfl
    · rfl
    · exact p2_one l u h
theorem p2_at : ∀ (l : List (Int × Int)) (i : Nat), i < l.length → (p2 l)[i * 2]? = some (.int .i64 (l.getD i (0, 0)).1) ∧ (p2 l)[i * 2 + 1]? = some (.int .i64 (l.getD i (0, 0)).2)
  | [], _, h => by simp at h
  | s :: l, 0, _ => ⟨rfl, rfl⟩
  | s :: l, i + 1, h => by
    have := p2_at l i (by simpa using h)
    rw [show (i + 1) * 2 = i * 2 + 2 by omega]
    simpa [p2, List.getD] using this
/-- A block that holds these terms, with room for 'cap'. -/
def Cu2 (cur : Array Value) (cap : Nat) (L : List (Int × Int)) : Prop := cur.size = cap * 2 ∧ L.length ≤ cap ∧ cur.toList.take (L.length * 2) = p2 L
theorem Cu2.get {cur : Array Value} {cap : Nat} {L : List (Int × Int)} (h : Cu2 cur cap L) {j : Nat} {u : Value} (hj : (p2 L)[j]? = some u) : cur[j]? = some u := by
  have hl : j < L.length * 2 := by have := (List.getElem?_eq_some_iff.1 hj).1; rwa [p2_len] at this
  rw [← h.2.2, List.getElem?_take, if_pos hl] at hj
  simpa using hj
theorem Cu2.add {cur : Array Value} {cap : Nat} {L : List (Int × Int)} (h : Cu2 cur cap L) (hr : L.length < cap) (x y : Int) :
    Cu2 ((cur.setIfInBounds (L.length * 2) (.int .i64 x)).setIfInBounds (L.length * 2 + 1) (.int .i64 y)) cap (L ++ [(x, y)]) := by
  obtain ⟨h1, h2, h3⟩ := h
  refine ⟨by simp [h1], by simp; omega, ?_⟩
  rw [p2_app, ← h3]
  apply List.ext_getElem?
  intro j
  have hsz : cur.toList.length = cap * 2 := by simpa using h1
  simp only [List.length_append, List.length_cons, List.length_nil, Array.toList_setIfInBounds]
  rw [List.getElem?_take]
  have hl : (cur.toList.take (L.length * 2)).length = L.length * 2 := by rw [List.length_take]; omega
  by_cases q1 : j < L.length * 2
  · rw [if_pos (by omega), List.getElem?_append_left (by omega), List.getElem?_take, if_pos q1]
    rw [List.getElem?_set_ne (by omega), List.getElem?_set_ne (by omega)]
  · rw [List.getElem?_append_right (by omega), hl]
    by_cases q2 : j < L.length * 2 + 2
    · rw [if_pos (by omega)]
      rcases (show j = L.length * 2 ∨ j = L.length * 2 + 1 by omega) with rfl | rfl
      · rw [List.getElem?_set_ne (by omega), List.getElem?_set_self (by omega), Nat.sub_self]; rfl
      · rw [List.getElem?_set_self (by simp; omega), show L.length * 2 + 1 - L.length * 2 = 1 by omega]; rfl
    · rw [if_neg (by omega), List.getElem?_eq_none (by simp [p2]; omega)]
/-- Terms that the call made, from block 'base' on. -/
def OTm (w : World) (base : Nat) (v : Value) (L : List (Int × Int)) : Prop := w.ownsRow base 56 2 v L.length (p2 L)
theorem OTm.cu {w : World} {base : Nat} {v : Value} {L : List (Int × Int)} (h : OTm w base v L) (h0 : 0 < L.length) : ∃ g cap cur, v = .slice (some ⟨g, 0, none⟩) L.length cap ∧ base ≤ g ∧ w.heap[g]? = some (.cells cur 56 (0, 0)) ∧ Cu2 cur cap L ∧ cap ≤ maxLen := by
  rcases h.2 with ⟨-, q⟩ | ⟨g, cap, cur, h1, h2, h3, h4, h5, h6, h7⟩
  · omega
  · exact ⟨g, cap, cur, h1, h2, h3, ⟨h6, h4, h7⟩, h5⟩
theorem OTm.of {w : World} {g cap base : Nat} {cur : Array Value} {L : List (Int × Int)} (h : w.heap[g]? = some (.cells cur 56 (0, 0))) (hb : base ≤ g) (hC : Cu2 cur cap L) (hcap : cap ≤ maxLen) : OTm w base (.slice (some ⟨g, 0, none⟩) L.length cap) L :=
  ⟨by rw [p2_len], .inr ⟨g, cap, cur, rfl, hb, h, hC.2.1, hcap, hC.1, hC.2.2⟩⟩
theorem OTm.nil (w : World) (base : Nat) : OTm w base (.slice none 0 0) [] := World.ownsRow_nil _ _ _ _
theorem OTm.below {w w' : World} {base : Nat} {v : Value} {L : List (Int × Int)} (h : OTm w base v L) (g : Below w.heap.size w w') : OTm w' base v L := by
  refine World.ownsRow.kept h (row := none) ⟨g.os, g.tape, g.output, g.size, fun i hi _ => g.block i hi⟩ ?_
  cases e : v.ownBlock with
  | none => exact .inl rfl
  | some b => exact .inr (by simp)
theorem OTm.base {w : World} {b c : Nat} {v : Value} {L : List (Int × Int)} (h : OTm w b v L) (k : c ≤ b) : OTm w c v L := by
  refine ⟨h.1, ?_⟩
  rcases h.2 with h | ⟨g, cap, cur, h1, h2, h3⟩
  · exact .inl h
  · exact .inr ⟨g, cap, cur, h1, Nat.le_trans k h2, h3⟩
theorem OTm.slice {w : World} {base : Nat} {v : Value} {L : List (Int × Int)} (h : OTm w base v L) : ∃ a cap, v = .slice a L.length cap := by
  rcases h.2 with ⟨rfl, q⟩ | ⟨g, cap, cur, rfl, -⟩
  · exact ⟨_, _, by rw [q]⟩
  · exact ⟨_, _, rfl⟩
theorem OTm.lt {w : World} {base : Nat} {v : Value} {L : List (Int × Int)} (h : OTm w base v L) : ∀ b, v.ownBlock = some b → base ≤ b := fun b e => (World.ownsRow.lt h b e).1
/-- What a list of terms reads as. -/
def TV (w : World) (v : Value) (L : List (Int × Int)) : Prop :=
  ∃ a cap, v = .slice a L.length cap ∧ L.length ≤ cap ∧ cap ≤ maxLen ∧ (0 < L.length → ∃ g, a = some ⟨g, 0, none⟩ ∧ ∀ j u, (p2 L)[j]? = some u → w.cell? ⟨g, j, none⟩ = some u)
theorem TV.at {w : World} {g : Nat} {L : List (Int × Int)} (h : ∀ j u, (p2 L)[j]? = some u → w.cell? ⟨g, j, none⟩ = some u) {i : Nat} (hi : i < L.length) :
    w.cell? ⟨g, i * 2, none⟩ = some (.int .i64 (L.getD i (0, 0)).1) ∧ w.cell? ⟨g, i * 2 + 1, none⟩ = some (.int .i64 (L.getD i (0, 0)).2) := ⟨h _ _ (p2_at L i hi).1, h _ _ (p2_at L i hi).2⟩
theorem TV.below {w w' : World} {v : Value} {L : List (Int × Int)} (h : TV w v L) (q : Below w.heap.size w w') : TV w' v L := by
  obtain ⟨a, cap, h1, h2, h3, h4⟩ := h
  refine ⟨a, cap, h1, h2, h3, fun h0 => ?_⟩
  obtain ⟨g, e, hc⟩ := h4 h0
  exact ⟨g, e, fun j u hj => (q.cell (World.block_lt_of_cell? w _ (hc j u hj))).trans (hc j u hj)⟩
theorem OTm.tv {w : World} {base : Nat} {v : Value} {L : List (Int × Int)} (h : OTm w base v L) : TV w v L := by
  rcases h.2 with ⟨rfl, q⟩ | ⟨g, cap, cur, rfl, h2, h3, h4, h5, h6, h7⟩
  · obtain rfl := List.eq_nil_of_length_eq_zero q
    exact ⟨none, 0, rfl, Nat.le_refl _, by unfold maxLen; omega, fun h => by cases h⟩
  · exact ⟨_, _, rfl, h4, h5, fun _ => ⟨g, rfl, fun j u hj => by rw [(cells_at h3).1]; exact Cu2.get ⟨h6, h4, h7⟩ hj⟩⟩
theorem Try.infoT : (Try.prog.info? 56).map (fun i => (i.zero, i.size, i.bytes)) = some (some (.agg #[.int .i64 0, .int .i64 0]), 2, 16) := by kernel_rfl
/-- 'append' of terms to what the call owns. -/
theorem wpList_apT {w : World} {ops : Array Oper} {rest : List Oper} {o : Oper} {a : Act} {Q : Exit → Act → World → Prop} (hgd : o.guard = none) (s x : Operand)
    (ho : o.op = .call { callee := .builtin .append, args := #[s, x], argTypes := #[47, 47] })
    (base : Nat) (v : Value) (L M : List (Int × Int)) (hs : a.eval s = v) (hown : OTm w base v L) (g m c : Nat) (hx : a.eval x = .slice (some ⟨g, 0, none⟩) m c) (hm : M.length = m) (hy : ∀ j u, (p2 M)[j]? = some u → w.cell? ⟨g, j, none⟩ = some u)
    (hlen : L.length + M.length ≤ 1000000) (hbase : base ≤ w.heap.size)
    (h : ∀ v' w', OTm w' base v' (L ++ M) → w.grownBy w' v.ownBlock → wpList Try.prog ops Q rest (a.put o.dst v') w') : wpList Try.prog ops Q (o :: rest) a w := by
  obtain ⟨i0, hi, hz0, hz1, hz2⟩ := info_parts Try.infoT
  refine wpList_append_own _ hgd s x _ ho base 56 i0 (.agg #[.int .i64 0, .int .i64 0]) 2 16 Try.underlying47 hi hz0 hz1 hz2 rfl (by decide) v L.length _ hs hown ⟨g, 0, none⟩ m c (p2 M) hx (by rw [p2_len, hm]) (fun j u hj => by rw [Addr.add_lit, Nat.zero_add]; exact hy j u hj) (p2_one M) (by unfold maxLen; omega) (by omega) hbase ?_
  intro v' w' h1 h2 h3
  refine h v' w' ?_ h2
  unfold OTm
  rw [List.length_append, hm, p2_app]
  exact h1
/-- One term laid in a block of its own, ahead of an append. -/
theorem term_one (w : World) (p q : Int) : ∀ j u, (p2 [(p, q)])[j]? = some u → (w.alloc (.cells #[.int .i64 p, .int .i64 q] 56)).cell? ⟨w.heap.size, j, none⟩ = some u := fun j u hj => by
  rw [(cells_at (heap_alloc_new w (.cells #[.int .i64 p, .int .i64 q] 56))).1]
  simpa [p2] using hj
theorem neT (T : TypeId) (hT : T = 56) (a b c d : Int) (v : Bool) (h : decide (a = c ∧ b = d) = v) : ∀ W, (binOp .neq T (.agg #[.int .i64 a, .int .i64 b]) (.agg #[.int .i64 c, .int .i64 d])).run Try.prog W = .ok (.bool (!v)) W := by
  intro W; subst h hT; simp [go_sem]; split <;> simp_all <;> split <;> simp_all
theorem l2_step {xs ys : List (Int × Int)} {k : Nat} {c d : Int × Int} (kx : xs.getD k (0, 0) = c) (ky : ys.getD k (0, 0) = d) (hx : k < xs.length) (hy : k < ys.length) (he : xs.take k = ys.take k) : (c = d → xs.take (k + 1) = ys.take (k + 1)) ∧ (c ≠ d → decide (xs = ys) = false) := by
  rw [List.getD_eq_getElem?_getD, List.getElem?_eq_getElem hx, Option.getD_some] at kx
  rw [List.getD_eq_getElem?_getD, List.getElem?_eq_getElem hy, Option.getD_some] at ky
  constructor
  · intro h
    rw [List.take_add_one, List.take_add_one, he, List.getElem?_eq_getElem hx, List.getElem?_eq_getElem hy, kx, ky, h]
  · intro h
    refine decide_eq_false fun e => h ?_
    subst e
    rw [← kx, ← ky]
theorem l2_end {xs ys : List (Int × Int)} {k n : Nat} (hx : xs.length = n) (hy : ys.length = n) (hk : n ≤ k) (he : xs.take k = ys.take k) : decide (xs = ys) = true := by
  rw [List.take_of_length_le (by omega), List.take_of_length_le (by omega)] at he
  exact decide_eq_true he
theorem retbT {a b : Bool} (h : a = b) : Ending.returned (.bool a) = .returned (.bool b) := by rw [h]
set_option maxHeartbeats 1000000 in
theorem sameT_any (u v : Value) (xs ys : List (Int × Int)) (W : World) (hu : TV W u xs) (hv : TV W v ys) :
    Calls Try.prog 16 #[u, v] W fun e w' => e = .returned (.bool (decide (xs = ys))) ∧ ∃ n, w' = W.drewN n := by
  obtain ⟨a, ca, rfl, a1, a2, a3⟩ := hu
  obtain ⟨b, cb, rfl, b1, b2, b3⟩ := hv
  unfold maxLen at a2 b2
  obtain ⟨la, hla⟩ : ∃ la, xs.length = la := ⟨_, rfl⟩
  obtain ⟨lb, hlb⟩ : ∃ lb, ys.length = lb := ⟨_, rfl⟩
  rw [hla] at a1 a3 ⊢
  rw [hlb] at b1 b3 ⊢
  have hxl : Hid (xs.length = la) := hla
  have hyl : Hid (ys.length = lb) := hlb
  have ha : Hid (0 < la → _) := a3
  have hb : Hid (0 < lb → _) := b3
  clear hla hlb a3 b3
  by_cases hlen : la = lb
  · subst hlen
    go_enter Try.func16, Try.ntmps16
    go_wp2
    go_loopw [13] (fun i wr => ∃ k n : Nat, k ≤ la ∧ i = .int .i64 k ∧ xs.take k = ys.take k ∧ wr = W.drewN n) (fun i _ => la - (intOf i).toNat)
    case atStart => exact ⟨0, 0, Nat.zero_le _, rfl, rfl, rfl⟩
    case round =>
      obtain ⟨k, n, hk, rfl, he, rfl⟩ := hrel
      have he' : Hid (xs.take k = ys.take k) := he
      clear he
      by_cases hlt : k < la
      · obtain ⟨g, rfl, hc⟩ := ha.out (by omega)
        obtain ⟨f, rfl, hd⟩ := hb.out (by omega)
        obtain ⟨p1, p2⟩ := TV.at hc (show k < xs.length by rw [hxl.out]; exact hlt)
        obtain ⟨q1, q2⟩ := TV.at hd (show k < ys.length by rw [hyl.out]; exact hlt)
        obtain ⟨A1, A2, hA⟩ : ∃ A1 A2, xs.getD k (0, 0) = (A1, A2) := ⟨_, _, rfl⟩
        obtain ⟨B1, B2, hB⟩ : ∃ B1 B2, ys.getD k (0, 0) = (B1, B2) := ⟨_, _, rfl⟩
        rw [hA] at p1 p2
        rw [hB] at q1 q2
        simp only at p1 p2 q1 q2
        have hstep : Hid _ := l2_step hA hB (by rw [hxl.out]; exact hlt) (by rw [hyl.out]; exact hlt) he'.out
        clear ha hb hc hd hA hB
        by_cases hcd : A1 = B1 ∧ A2 = B2
        · obtain ⟨rfl, rfl⟩ := hcd
          have qn := neT 56 rfl A1 A2 A1 A2 true (by simp)
          have he2 : Hid (xs.take (k + 1) = ys.take (k + 1)) := hstep.out.1 rfl
          clear hstep
          go_wp2
          go_quiet (fail)
          go_wp2
          go_roundw
          case rel => exact ⟨k + 1, _, by omega, by go_num, he2.out, rfl⟩
          case measure => simp [intOf]; omega
        · have qn := neT 56 rfl A1 A2 B1 B2 false (decide_eq_false hcd)
          have hD : Hid (decide (xs = ys) = false) := hstep.out.2 (fun q => hcd (by simpa using q))
          go_wp2
          go_quiet (fail)
          go_wp2
          go_ret
          exact ⟨retbT hD.out.symm, by rw [World.drewN_drewN]; exact ⟨_, rfl⟩⟩
      · clear ha hb
        have hD : Hid (decide (xs = ys) = true) := l2_end hxl.out hyl.out (by omega) he'.out
        go_wp2
        go_ret
        exact ⟨retbT hD.out.symm, _, rfl⟩
  · have hne : xs ≠ ys := fun e => hlen (by rw [← hxl.out, ← hyl.out, e])
    have hD : Hid (decide (xs = ys) = false) := by simp [Hid, hne]
    have hl : ((la : Int) == (lb : Int)) = false := by simp; omega
    clear ha hb hne
    go_enter Try.func16, Try.ntmps16
    go_wp2
    go_ret
    exact ⟨retbT hD.out.symm, 0, rfl⟩
end Go.Proofs.Yteobcmocjpdcmaa
