/- The walk of PlainMemory. -/
import Derived.Test.YtmcdpbnpnifdfaaGreatGm33
import Derived.Deep.DeepCutAuto
/- The walk of PlainMemory. -/
namespace Go.Proofs.YtmcdpbnpnifdfaaGreat
open Go.ChangeShapes Go.WideShapes Go.ChangeAt Go.RowKit
set_option linter.unusedVariables false
set_option maxHeartbeats 8000000 in
set_option maxRecDepth 100000 in
theorem memory_w (h w c lo hi ot : Int) (oa : Option Addr) (on oc : Nat) (W : World) (ad : Option Addr) (n cap : Nat) (xs : List Int) (hX : IRow .i8 W ad n cap xs) (hrx : n * 1 ≤ 140737488351232) (E A : Int) (Ts : List (List Int)) (io : Nat)
    (hok : E = 0 → Ts.length = on + 1 ∧ io ≤ on ∧ on ≤ 64 ∧ ∀ i, (Ts.getD i []).length ≤ 16384)
    (hPT : Hid (∀ (W' : World) (ad' : Option Addr) (cap' : Nat), Below W.heap.size W W' → IRow .i8 W' ad' n cap' xs → Calls Tryz.prog 7 #[.agg #[.int .i64 h, .int .i64 w, .int .i64 c, .int .i64 lo, .int .i64 hi, .slice oa on oc, .int .i64 ot], .slice ad' n cap'] W' fun e w' => (∃ v, e = .returned (.tuple #[v, .agg #[.int .i64 E, .int .i64 A, .int .i64 0]]) ∧ (E = 0 → LLs w' W'.heap.size v Ts) ∧ (E ≠ 0 → v = .slice none 0 0)) ∧ Below W'.heap.size W' w'))
    (hPE : Hid (∀ (W' : World) (ad' : Option Addr) (cap' : Nat), Below W.heap.size W W' → IRow .i8 W' ad' n cap' xs → Calls Tryz.prog 8 #[.agg #[.int .i64 h, .int .i64 w, .int .i64 c, .int .i64 lo, .int .i64 hi, .slice oa on oc, .int .i64 ot], .slice ad' n cap'] W' fun e w' => (∃ v, e = .returned (.tuple #[v, .agg #[.int .i64 E, .int .i64 A, .int .i64 0]]) ∧ (E = 0 → Own .i8 41 w' W'.heap.size v (Ts.getD io [])) ∧ (E ≠ 0 → v = .slice none 0 0)) ∧ Below W'.heap.size W' w'))
    (hRT : Hid (∀ (W' : World), Below W.heap.size W W' → Calls Tryz.prog 6 #[.agg #[.int .i64 h, .int .i64 w, .int .i64 c, .int .i64 lo, .int .i64 hi, .slice oa on oc, .int .i64 ot], .slice ad n cap] W' fun e w' => (∃ v, e = .returned (.tuple #[v, .agg #[.int .i64 E, .int .i64 A, .int .i64 0]]) ∧ (E = 0 → LLs w' W'.heap.size v Ts) ∧ (E ≠ 0 → v = .slice none 0 0)) ∧ Below W'.heap.size W' w')) :
    Calls Tryz.prog 4 #[.agg #[.int .i64 h, .int .i64 w, .int .i64 c, .int .i64 lo, .int .i64 hi, .slice oa on oc, .int .i64 ot], .slice ad n cap] W fun e w' => e = .returned (.bool true) ∧ Below W.heap.size W w' := by
  have HX : Hid (IRow .i8 W ad n cap xs) := hX
  have HXL : Hid (xs.length = n) := hX.1
  have HOk : Hid (E = 0 → Ts.length = on + 1 ∧ io ≤ on ∧ on ≤ 64 ∧ ∀ i, (Ts.getD i []).length ≤ 16384) := hok
  have hnc := hX.2.1
  have hnm := hX.2.2.1
  unfold maxLen at hnm
  have s0 := (St.start W).new (c := #[.int .i64 h, .int .i64 w, .int .i64 c, .int .i64 lo, .int .i64 hi, .slice oa on oc, .int .i64 ot]) (t := 26)
  clear hX hok
  go_enter Tryz.func4, Tryz.ntmps4
  go_wp2_with fail
  refine (fixed11_any _).mono ?_
  rintro e w1 ⟨rfl, hb⟩
  have S1 : Hid (St W w1 [(W.heap.size, #[.int .i64 h, .int .i64 w, .int .i64 c, .int .i64 lo, .int .i64 hi, .slice oa on oc, .int .i64 ot], 26)]) := s0.call hb
  clear hb s0
  have own0 : Hid (Own .i8 41 (w1.alloc (.cells #[] 41)) w1.heap.size (.slice (some ⟨w1.heap.size, 0, none⟩) 0 0) []) := own_lit .i8 41 w1 w1.heap.size [] (Wf.nil _) (by unfold maxLen; simp) (Nat.le_refl _)
  have wf3 : Hid (∀ z ∈ ([91, 92, 93] : List Int), I8 z) := by unfold Hid; intro z hz; simp only [List.mem_cons, List.not_mem_nil, or_false] at hz; unfold I8; omega
  go_upto_region 4 with (first
    | (at_builtin; refine wpList_appB kt_i8 rfl (.tmp 29) (.tmp 30) rfl w1.heap.size (.slice (some ⟨w1.heap.size, 0, none⟩) 0 0) xs rfl own0.out _ _ _ rfl ((HX.out.below S1.out.below).below (bal _ _)) hrx (by simp) ?_; intro v2 w2 own2 gr2; have B2 : Hid (Below w1.heap.size w1 w2) := own0.out.bel (bal _ _) gr2 (Nat.le_refl _) (by simp); have O2 : Hid (Own .i8 41 w2 w1.heap.size v2 xs) := own2; clear own2 gr2 own0)
    | (at_builtin; refine wpList_appW kt_i8 rfl (.tmp 31) (.tmp 32) rfl w1.heap.size v2 xs [91, 92, 93] rfl (O2.out.alloc _) _ _ _ rfl (irow_new w2 [91, 92, 93] wf3.out (by decide)) (by rw [HXL.out]; omega) (Nat.le_trans B2.out.size (bal _ _).size) ?_; intro v3 w3 own3 gr3; have B3 : Hid (Below w1.heap.size w1 w3) := (O2.out.alloc _).bel (btr B2.out (bal _ _)) gr3 (Nat.le_refl _) (Nat.le_trans B2.out.size (bal _ _).size); have O3 : Hid (Own .i8 41 w3 w1.heap.size v3 (xs ++ [91, 92, 93])) := own3; clear own3 gr3))
  obtain ⟨va, vc, rfl, -, -⟩ := O3.out.row
  obtain ⟨NW, hNW⟩ : ∃ NW, (xs ++ [91, 92, 93]).length = NW := ⟨_, rfl⟩
  have HNW2 : Hid (NW = n + 3) := by unfold Hid; rw [← hNW, List.length_append, HXL.out]; rfl
  have hNWn : n ≤ NW := by have := HNW2.out; omega
  have hNW3 : NW ≤ 140737488351235 := by have := HNW2.out; omega
  rw [hNW] at O3 ⊢
  have HNW : Hid ((xs ++ [91, 92, 93]).length = NW) := hNW
  have HRW : Hid (IRow .i8 w3 va NW vc (xs ++ [91, 92, 93])) := by obtain ⟨a', c', e', hr', -⟩ := O3.out.row; rw [hNW] at hr' e'; cases e'; exact hr'
  have hw1 := HRW.out.2.1
  have hw2 := HRW.out.2.2.1
  unfold maxLen at hw2
  have S3 : Hid (St W w3 [(W.heap.size, #[.int .i64 h, .int .i64 w, .int .i64 c, .int .i64 lo, .int .i64 hi, .slice oa on oc, .int .i64 ot], 26)]) := S1.out.call B3.out
  have own3 : Hid (Own .i8 41 (w3.alloc (.cells #[] 41)) w3.heap.size (.slice (some ⟨w3.heap.size, 0, none⟩) 0 0) []) := own_lit .i8 41 w3 w3.heap.size [] (Wf.nil _) (by unfold maxLen; simp) (Nat.le_refl _)
  clear hNW O3 B3 B2 O2 S1 wf3
  go_upto_region 5 with (at_builtin; refine wpList_appW kt_i8 rfl (.tmp 34) (.tmp 35) rfl w3.heap.size (.slice (some ⟨w3.heap.size, 0, none⟩) 0 0) [] (xs ++ [91, 92, 93]) rfl own3.out _ _ _ rfl (HRW.out.below (bal _ _)) (by simp; omega) (by simp) ?_; intro v4 w4 own4 gr4; have B4 : Hid (Below w3.heap.size w3 w4) := own3.out.bel (bal _ _) gr4 (Nat.le_refl _) (by simp); have O4 : Hid (Own .i8 41 w4 w3.heap.size v4 (xs ++ [91, 92, 93])) := own4; clear own4 gr4 own3)
  obtain ⟨wb, cb, rfl, -, -⟩ := O4.out.row
  rw [HNW.out] at O4 ⊢
  have S4 : Hid (St W w4 [(W.heap.size, #[.int .i64 h, .int .i64 w, .int .i64 c, .int .i64 lo, .int .i64 hi, .slice oa on oc, .int .i64 ot], 26)]) := S3.out.call B4.out
  have HR4 : Hid (IRow .i8 w4 va n vc xs) := by
    have := (HRW.out.below B4.out).take (n := n) (by omega)
    rw [List.take_append_of_le_length (by rw [HXL.out]; exact Nat.le_refl _), List.take_of_length_le (by rw [HXL.out]; exact Nat.le_refl _)] at this
    exact this
  have HAB : Hid (∀ w', Below w4.heap.size w4 w' → IRow .i8 w' va NW vc (xs ++ [91, 92, 93]) ∧ IRow .i8 w' wb NW cb (xs ++ [91, 92, 93]) ∧ Below W.heap.size W w' ∧ IRow .i8 w' va n vc xs ∧ w'.heap[W.heap.size]? = some (.cells #[.int .i64 h, .int .i64 w, .int .i64 c, .int .i64 lo, .int .i64 hi, .slice oa on oc, .int .i64 ot] 26 (0, 0))) := fun w' q => ⟨(HRW.out.below B4.out).below q, O4.out.irow.below q, (S4.out.call q).below, HR4.out.below q, (S4.out.call q).h1⟩
  clear S3 S4 HRW O4 HR4 B4 HNW HNW2 HXL

  go_cut [7, 8] from 37 to 45 (fun sa sb wx => ∃ (b : Nat) (v : Value), v = sa ∧ sb = .pointer (some ⟨b, 0, none⟩) ∧ Below w4.heap.size w4 wx ∧ w4.heap.size ≤ b ∧ wx.heap[b]? = some (.cells #[.int .i64 E, .int .i64 A, .int .i64 0] 32 (0, 0)) ∧ (E = 0 → LLs wx w4.heap.size v Ts) ∧ (E ≠ 0 → v = .slice none 0 0))
  case first =>
    refine regionC (fun w' => Below w4.heap.size w4 w') (by kernel_rfl) ?_
    obtain ⟨wd, hwd⟩ : ∃ wd, w4.drew = wd := ⟨_, rfl⟩
    have HD : Hid (Below w4.heap.size w4 wd) := by unfold Hid; rw [← hwd]; exact (Below.refl _ _).drew
    rw [hwd]
    clear hwd
    have K0 : Hid (∀ w', Below w4.heap.size w4 w' → ∀ q v, [.int .i64 h, .int .i64 w, .int .i64 c, .int .i64 lo, .int .i64 hi, .slice oa on oc, .int .i64 ot][q]? = some v → w'.cell? ((⟨W.heap.size, 0, none⟩ : Addr).add q) = some v) := fun w' hw' => lcells (HAB.out w' (hw')).2.2.2.2 (fget [.int .i64 h, .int .i64 w, .int .i64 c, .int .i64 lo, .int .i64 hi, .slice oa on oc, .int .i64 ot] [])
    refine takeC 0 (v := .agg #[.int .i64 h, .int .i64 w, .int .i64 c, .int .i64 lo, .int .i64 hi, .slice oa on oc, .int .i64 ot]) rfl rfl (by kernel_rfl) (by kernel_rfl) (by kernel_rfl) (fun _ _ _ h => h) (fun _ => rfl) rfl (fun w' hw' => run_la 26 (.tmp 2) rfl ⟨W.heap.size, 0, none⟩ (by kernel_rfl) [.int .i64 h, .int .i64 w, .int .i64 c, .int .i64 lo, .int .i64 hi, .slice oa on oc, .int .i64 ot] _ (K0.out w' hw') Tryz.underlying26 rfl (by kernel_rfl)) ?_
    refine takeC 1 (v := .slice va NW vc) rfl rfl (by kernel_rfl) (by kernel_rfl) (by kernel_rfl) (fun _ _ _ h => h) (fun _ => rfl) rfl (fun w' hw' => by go_simp) ?_
    refine takeC 2 (v := .slice ad n cap) rfl rfl (by kernel_rfl) (by kernel_rfl) (by kernel_rfl) (fun _ _ _ h => h) (fun _ => rfl) rfl (fun w' hw' => by go_simp) ?_
    refine takeC 3 (v := .int .i64 (n : Int)) rfl rfl (by kernel_rfl) (by kernel_rfl) (by kernel_rfl) (fun _ _ _ h => h) (fun _ => rfl) rfl (fun w' hw' => by go_simp) ?_
    refine takeC 4 (v := .slice va n vc) rfl rfl (by kernel_rfl) (by kernel_rfl) (by kernel_rfl) (fun _ _ _ h => h) (fun _ => rfl) rfl (fun w' hw' => by go_simp; try omega) ?_
    refine twoC 5 9 HD.out (by kernel_rfl) ?_ ?_
    · refine opK rfl rfl 7 #[.agg #[.int .i64 h, .int .i64 w, .int .i64 c, .int .i64 lo, .int .i64 hi, .slice oa on oc, .int .i64 ot], .slice va n vc] (by kernel_rfl) (hPT.out wd va vc (HAB.out _ (HD.out)).2.2.1 (HAB.out _ (HD.out)).2.2.2.1) ?_
      rintro e wz ⟨⟨vz, rfl, hlz, hnz⟩, hbz⟩
      have HBZ : Hid (Below w4.heap.size w4 wz) := btr HD.out hbz
      refine ⟨_, rfl, ?_⟩
      refine takeC 6 (v := .tuple #[vz, .agg #[.int .i64 E, .int .i64 A, .int .i64 0]]) rfl rfl (by kernel_rfl) (by kernel_rfl) (by kernel_rfl) (fun _ _ _ h => h) (fun _ => rfl) rfl (fun w' hw' => by kernel_rfl) ?_
      refine takeC 7 (v := vz) rfl rfl (by kernel_rfl) (by kernel_rfl) (by kernel_rfl) (fun _ _ _ h => h) (fun _ => rfl) rfl (fun w' hw' => by kernel_rfl) ?_
      refine takeC 8 (v := .agg #[.int .i64 E, .int .i64 A, .int .i64 0]) rfl rfl (by kernel_rfl) (by kernel_rfl) (by kernel_rfl) (fun _ _ _ h => h) (fun _ => rfl) rfl (fun w' hw' => by kernel_rfl) ?_
      refine stepR 9 HBZ.out (by kernel_rfl) rfl rfl (.pointer (some ⟨wz.heap.size, 0, none⟩)) (wz.alloc (.cells #[.int .i64 0, .int .i64 0, .int .i64 0] 32)) (by kernel_rfl) ?_
      refine stepR 10 (btr HBZ.out (bal _ _)) (by kernel_rfl) rfl rfl vz (wz.alloc (.cells #[.int .i64 0, .int .i64 0, .int .i64 0] 32)) (by kernel_rfl) ?_
      refine stepS 11 (btr HBZ.out (bal _ _)) (by kernel_rfl) rfl rfl 32 (.tmp 8) (.tmp 45) rfl wz.heap.size #[.int .i64 E, .int .i64 A, .int .i64 0] (by kernel_rfl) (by kernel_rfl) 32 #[.int .i64 0, .int .i64 0, .int .i64 0] (heap_alloc_new wz _) (by kernel_rfl) rfl (by simp [Value.oneCell']) ?_
      rw [World.setRow_alloc_new]
      refine doneC (btr HBZ.out (bal _ _)) (by kernel_rfl) ?_ _
      refine (show ∀ a' w', Met _ a' w' → _ from by assumption) _ _ ?_
      refine Met.intro ?_
      go_step
      exact ⟨vz, .pointer (some ⟨wz.heap.size, 0, none⟩), .tuple #[vz, .agg #[.int .i64 E, .int .i64 A, .int .i64 0]], .agg #[.int .i64 h, .int .i64 w, .int .i64 c, .int .i64 lo, .int .i64 hi, .slice oa on oc, .int .i64 ot], .slice va NW vc, .slice ad n cap, .int .i64 (n : Int), .slice va n vc, .tuple #[vz, .agg #[.int .i64 E, .int .i64 A, .int .i64 0]], vz, .agg #[.int .i64 E, .int .i64 A, .int .i64 0], ⟨wz.heap.size, vz, rfl, rfl, btr HBZ.out (bal _ _), HBZ.out.size, heap_alloc_new wz _, fun q => ((hlz q).base HD.out.size).below (bal _ _), hnz⟩, by kernel_rfl⟩
    · refine opR rfl rfl (.pointer (some ⟨wd.heap.size, 0, none⟩)) (wd.alloc (.cells #[.int .i64 0, .int .i64 0, .int .i64 0] 32)) (by kernel_rfl) ?_
      have HD2 : Hid (Below w4.heap.size w4 (wd.alloc (.cells #[.int .i64 0, .int .i64 0, .int .i64 0] 32))) := btr HD.out (bal _ _)
      refine stepK 5 HD2.out (by kernel_rfl) rfl rfl 7 #[.agg #[.int .i64 h, .int .i64 w, .int .i64 c, .int .i64 lo, .int .i64 hi, .slice oa on oc, .int .i64 ot], .slice va n vc] (by kernel_rfl) (hPT.out _ va vc (HAB.out _ (HD2.out)).2.2.1 (HAB.out _ (HD2.out)).2.2.2.1) ?_
      rintro e wz ⟨⟨vz, rfl, hlz, hnz⟩, hbz⟩
      have HBZ : Hid (Below w4.heap.size w4 wz) := btr HD2.out hbz
      have hhz : wz.heap[wd.heap.size]? = some (.cells #[.int .i64 0, .int .i64 0, .int .i64 0] 32 (0, 0)) := (hbz.block _ (by simp)).trans (heap_alloc_new wd _)
      refine ⟨_, rfl, ?_⟩
      refine takeC 6 (v := .tuple #[vz, .agg #[.int .i64 E, .int .i64 A, .int .i64 0]]) rfl rfl (by kernel_rfl) (by kernel_rfl) (by kernel_rfl) (fun _ _ _ h => h) (fun _ => rfl) rfl (fun w' hw' => by kernel_rfl) ?_
      refine takeC 7 (v := vz) rfl rfl (by kernel_rfl) (by kernel_rfl) (by kernel_rfl) (fun _ _ _ h => h) (fun _ => rfl) rfl (fun w' hw' => by kernel_rfl) ?_
      refine takeC 8 (v := .agg #[.int .i64 E, .int .i64 A, .int .i64 0]) rfl rfl (by kernel_rfl) (by kernel_rfl) (by kernel_rfl) (fun _ _ _ h => h) (fun _ => rfl) rfl (fun w' hw' => by kernel_rfl) ?_
      refine stepR 10 HBZ.out (by kernel_rfl) rfl rfl vz wz (by kernel_rfl) ?_
      refine stepS 11 HBZ.out (by kernel_rfl) rfl rfl 32 (.tmp 8) (.tmp 45) rfl wd.heap.size #[.int .i64 E, .int .i64 A, .int .i64 0] (by kernel_rfl) (by kernel_rfl) 32 #[.int .i64 0, .int .i64 0, .int .i64 0] hhz (by kernel_rfl) rfl (by simp [Value.oneCell']) ?_
      have hSZ : Below w4.heap.size w4 (wz.setRow wd.heap.size #[.int .i64 E, .int .i64 A, .int .i64 0]) := below_setRow HBZ.out HD.out.size _
      refine doneC hSZ (by kernel_rfl) ?_ _
      refine (show ∀ a' w', Met _ a' w' → _ from by assumption) _ _ ?_
      refine Met.intro ?_
      go_step
      exact ⟨vz, .pointer (some ⟨wd.heap.size, 0, none⟩), .tuple #[vz, .agg #[.int .i64 E, .int .i64 A, .int .i64 0]], .agg #[.int .i64 h, .int .i64 w, .int .i64 c, .int .i64 lo, .int .i64 hi, .slice oa on oc, .int .i64 ot], .slice va NW vc, .slice ad n cap, .int .i64 (n : Int), .slice va n vc, .tuple #[vz, .agg #[.int .i64 E, .int .i64 A, .int .i64 0]], vz, .agg #[.int .i64 E, .int .i64 A, .int .i64 0], ⟨wd.heap.size, vz, rfl, rfl, hSZ, HD.out.size, setRow_heap _ _ _ _ _ _ hhz, fun q => ((hlz q).base HD2.out.size).setRow hhz (by decide) (by decide), hnz⟩, by kernel_rfl⟩
  obtain ⟨b8, va7, rfl, rfl, h1, h2, h3, h4, h5⟩ := hcut
  obtain ⟨w5, rfl⟩ : ∃ w', w' = wc := ⟨_, rfl⟩
  have Bw5 : Hid (Below w4.heap.size w4 w5) := h1
  have Hb8 : Hid (w4.heap.size ≤ b8 ∧ w5.heap[b8]? = some (.cells #[.int .i64 E, .int .i64 A, .int .i64 0] 32 (0, 0))) := ⟨h2, h3⟩
  have Lw5 : Hid (E = 0 → LLs w5 w4.heap.size va7 Ts) := h4
  have Nw5 : Hid (E ≠ 0 → va7 = .slice none 0 0) := h5
  clear h1 h2 h3 h4 h5
  go_upto_region 6 with fail
  go_cut [9, 10] from 46 to 54 (fun sa sb wx => ∃ (b : Nat) (v : Value), v = sa ∧ sb = .pointer (some ⟨b, 0, none⟩) ∧ Below w5.heap.size w5 wx ∧ w5.heap.size ≤ b ∧ wx.heap[b]? = some (.cells #[.int .i64 E, .int .i64 A, .int .i64 0] 32 (0, 0)) ∧ (E = 0 → (Own .i8 41 wx w5.heap.size v (Ts.getD io []))) ∧ (E ≠ 0 → v = .slice none 0 0))
  case first =>
    refine regionC (fun w' => Below w5.heap.size w5 w') (by kernel_rfl) ?_
    obtain ⟨wd, hwd⟩ : ∃ wd, w5.drew = wd := ⟨_, rfl⟩
    have HD : Hid (Below w5.heap.size w5 wd) := by unfold Hid; rw [← hwd]; exact (Below.refl _ _).drew
    rw [hwd]
    clear hwd
    have K0 : Hid (∀ w', Below w5.heap.size w5 w' → ∀ q v, [.int .i64 h, .int .i64 w, .int .i64 c, .int .i64 lo, .int .i64 hi, .slice oa on oc, .int .i64 ot][q]? = some v → w'.cell? ((⟨W.heap.size, 0, none⟩ : Addr).add q) = some v) := fun w' hw' => lcells (HAB.out w' (btr Bw5.out (hw'))).2.2.2.2 (fget [.int .i64 h, .int .i64 w, .int .i64 c, .int .i64 lo, .int .i64 hi, .slice oa on oc, .int .i64 ot] [])
    refine takeC 0 (v := .agg #[.int .i64 h, .int .i64 w, .int .i64 c, .int .i64 lo, .int .i64 hi, .slice oa on oc, .int .i64 ot]) rfl rfl (by kernel_rfl) (by kernel_rfl) (by kernel_rfl) (fun _ _ _ h => h) (fun _ => rfl) rfl (fun w' hw' => run_la 26 (.tmp 2) rfl ⟨W.heap.size, 0, none⟩ (by kernel_rfl) [.int .i64 h, .int .i64 w, .int .i64 c, .int .i64 lo, .int .i64 hi, .slice oa on oc, .int .i64 ot] _ (K0.out w' hw') Tryz.underlying26 rfl (by kernel_rfl)) ?_
    refine takeC 1 (v := .slice va NW vc) rfl rfl (by kernel_rfl) (by kernel_rfl) (by kernel_rfl) (fun _ _ _ h => h) (fun _ => rfl) rfl (fun w' hw' => by go_simp) ?_
    refine takeC 2 (v := .slice ad n cap) rfl rfl (by kernel_rfl) (by kernel_rfl) (by kernel_rfl) (fun _ _ _ h => h) (fun _ => rfl) rfl (fun w' hw' => by go_simp) ?_
    refine takeC 3 (v := .int .i64 (n : Int)) rfl rfl (by kernel_rfl) (by kernel_rfl) (by kernel_rfl) (fun _ _ _ h => h) (fun _ => rfl) rfl (fun w' hw' => by go_simp) ?_
    refine takeC 4 (v := .slice va n vc) rfl rfl (by kernel_rfl) (by kernel_rfl) (by kernel_rfl) (fun _ _ _ h => h) (fun _ => rfl) rfl (fun w' hw' => by go_simp; try omega) ?_
    refine twoC 5 9 HD.out (by kernel_rfl) ?_ ?_
    · refine opK rfl rfl 8 #[.agg #[.int .i64 h, .int .i64 w, .int .i64 c, .int .i64 lo, .int .i64 hi, .slice oa on oc, .int .i64 ot], .slice va n vc] (by kernel_rfl) (hPE.out wd va vc (HAB.out _ (btr Bw5.out (HD.out))).2.2.1 (HAB.out _ (btr Bw5.out (HD.out))).2.2.2.1) ?_
      rintro e wz ⟨⟨vz, rfl, hlz, hnz⟩, hbz⟩
      have HBZ : Hid (Below w5.heap.size w5 wz) := btr HD.out hbz
      refine ⟨_, rfl, ?_⟩
      refine takeC 6 (v := .tuple #[vz, .agg #[.int .i64 E, .int .i64 A, .int .i64 0]]) rfl rfl (by kernel_rfl) (by kernel_rfl) (by kernel_rfl) (fun _ _ _ h => h) (fun _ => rfl) rfl (fun w' hw' => by kernel_rfl) ?_
      refine takeC 7 (v := vz) rfl rfl (by kernel_rfl) (by kernel_rfl) (by kernel_rfl) (fun _ _ _ h => h) (fun _ => rfl) rfl (fun w' hw' => by kernel_rfl) ?_
      refine takeC 8 (v := .agg #[.int .i64 E, .int .i64 A, .int .i64 0]) rfl rfl (by kernel_rfl) (by kernel_rfl) (by kernel_rfl) (fun _ _ _ h => h) (fun _ => rfl) rfl (fun w' hw' => by kernel_rfl) ?_
      refine stepR 9 HBZ.out (by kernel_rfl) rfl rfl (.pointer (some ⟨wz.heap.size, 0, none⟩)) (wz.alloc (.cells #[.int .i64 0, .int .i64 0, .int .i64 0] 32)) (by kernel_rfl) ?_
      refine stepR 10 (btr HBZ.out (bal _ _)) (by kernel_rfl) rfl rfl vz (wz.alloc (.cells #[.int .i64 0, .int .i64 0, .int .i64 0] 32)) (by kernel_rfl) ?_
      refine stepS 11 (btr HBZ.out (bal _ _)) (by kernel_rfl) rfl rfl 32 (.tmp 10) (.tmp 54) rfl wz.heap.size #[.int .i64 E, .int .i64 A, .int .i64 0] (by kernel_rfl) (by kernel_rfl) 32 #[.int .i64 0, .int .i64 0, .int .i64 0] (heap_alloc_new wz _) (by kernel_rfl) rfl (by simp [Value.oneCell']) ?_
      rw [World.setRow_alloc_new]
      refine doneC (btr HBZ.out (bal _ _)) (by kernel_rfl) ?_ _
      refine (show ∀ a' w', Met _ a' w' → _ from by assumption) _ _ ?_
      refine Met.intro ?_
      go_step
      exact ⟨vz, .pointer (some ⟨wz.heap.size, 0, none⟩), .tuple #[vz, .agg #[.int .i64 E, .int .i64 A, .int .i64 0]], .agg #[.int .i64 h, .int .i64 w, .int .i64 c, .int .i64 lo, .int .i64 hi, .slice oa on oc, .int .i64 ot], .slice va NW vc, .slice ad n cap, .int .i64 (n : Int), .slice va n vc, .tuple #[vz, .agg #[.int .i64 E, .int .i64 A, .int .i64 0]], vz, .agg #[.int .i64 E, .int .i64 A, .int .i64 0], ⟨wz.heap.size, vz, rfl, rfl, btr HBZ.out (bal _ _), HBZ.out.size, heap_alloc_new wz _, fun q => ((hlz q).base HD.out.size).below (bal _ _), hnz⟩, by kernel_rfl⟩
    · refine opR rfl rfl (.pointer (some ⟨wd.heap.size, 0, none⟩)) (wd.alloc (.cells #[.int .i64 0, .int .i64 0, .int .i64 0] 32)) (by kernel_rfl) ?_
      have HD2 : Hid (Below w5.heap.size w5 (wd.alloc (.cells #[.int .i64 0, .int .i64 0, .int .i64 0] 32))) := btr HD.out (bal _ _)
      refine stepK 5 HD2.out (by kernel_rfl) rfl rfl 8 #[.agg #[.int .i64 h, .int .i64 w, .int .i64 c, .int .i64 lo, .int .i64 hi, .slice oa on oc, .int .i64 ot], .slice va n vc] (by kernel_rfl) (hPE.out _ va vc (HAB.out _ (btr Bw5.out (HD2.out))).2.2.1 (HAB.out _ (btr Bw5.out (HD2.out))).2.2.2.1) ?_
      rintro e wz ⟨⟨vz, rfl, hlz, hnz⟩, hbz⟩
      have HBZ : Hid (Below w5.heap.size w5 wz) := btr HD2.out hbz
      have hhz : wz.heap[wd.heap.size]? = some (.cells #[.int .i64 0, .int .i64 0, .int .i64 0] 32 (0, 0)) := (hbz.block _ (by simp)).trans (heap_alloc_new wd _)
      refine ⟨_, rfl, ?_⟩
      refine takeC 6 (v := .tuple #[vz, .agg #[.int .i64 E, .int .i64 A, .int .i64 0]]) rfl rfl (by kernel_rfl) (by kernel_rfl) (by kernel_rfl) (fun _ _ _ h => h) (fun _ => rfl) rfl (fun w' hw' => by kernel_rfl) ?_
      refine takeC 7 (v := vz) rfl rfl (by kernel_rfl) (by kernel_rfl) (by kernel_rfl) (fun _ _ _ h => h) (fun _ => rfl) rfl (fun w' hw' => by kernel_rfl) ?_
      refine takeC 8 (v := .agg #[.int .i64 E, .int .i64 A, .int .i64 0]) rfl rfl (by kernel_rfl) (by kernel_rfl) (by kernel_rfl) (fun _ _ _ h => h) (fun _ => rfl) rfl (fun w' hw' => by kernel_rfl) ?_
      refine stepR 10 HBZ.out (by kernel_rfl) rfl rfl vz wz (by kernel_rfl) ?_
      refine stepS 11 HBZ.out (by kernel_rfl) rfl rfl 32 (.tmp 10) (.tmp 54) rfl wd.heap.size #[.int .i64 E, .int .i64 A, .int .i64 0] (by kernel_rfl) (by kernel_rfl) 32 #[.int .i64 0, .int .i64 0, .int .i64 0] hhz (by kernel_rfl) rfl (by simp [Value.oneCell']) ?_
      have hSZ : Below w5.heap.size w5 (wz.setRow wd.heap.size #[.int .i64 E, .int .i64 A, .int .i64 0]) := below_setRow HBZ.out HD.out.size _
      refine doneC hSZ (by kernel_rfl) ?_ _
      refine (show ∀ a' w', Met _ a' w' → _ from by assumption) _ _ ?_
      refine Met.intro ?_
      go_step
      exact ⟨vz, .pointer (some ⟨wd.heap.size, 0, none⟩), .tuple #[vz, .agg #[.int .i64 E, .int .i64 A, .int .i64 0]], .agg #[.int .i64 h, .int .i64 w, .int .i64 c, .int .i64 lo, .int .i64 hi, .slice oa on oc, .int .i64 ot], .slice va NW vc, .slice ad n cap, .int .i64 (n : Int), .slice va n vc, .tuple #[vz, .agg #[.int .i64 E, .int .i64 A, .int .i64 0]], vz, .agg #[.int .i64 E, .int .i64 A, .int .i64 0], ⟨wd.heap.size, vz, rfl, rfl, hSZ, HD.out.size, setRow_heap _ _ _ _ _ _ hhz, fun q => ((hlz q).base HD2.out.size).setRow hhz (by decide) (by decide), hnz⟩, by kernel_rfl⟩
  obtain ⟨b10, vy9, rfl, rfl, h1, h2, h3, h4, h5⟩ := hcut
  obtain ⟨w6, rfl⟩ : ∃ w', w' = wc := ⟨_, rfl⟩
  have Bw6 : Hid (Below w5.heap.size w5 w6) := h1
  have Hb10 : Hid (w5.heap.size ≤ b10 ∧ w6.heap[b10]? = some (.cells #[.int .i64 E, .int .i64 A, .int .i64 0] 32 (0, 0))) := ⟨h2, h3⟩
  have Lw6 : Hid (E = 0 → (Own .i8 41 w6 w5.heap.size vy9 (Ts.getD io []))) := h4
  have Nw6 : Hid (E ≠ 0 → vy9 = .slice none 0 0) := h5
  clear h1 h2 h3 h4 h5
  have B46 : Hid (Below w4.heap.size w4 w6) := btr Bw5.out Bw6.out
  have hc8 : ∀ i, w6.cell? ⟨b8, i, none⟩ = #[.int .i64 E, .int .i64 A, .int .i64 0][i]? := (cells_at ((Bw6.out.block _ (lt_of_heap Hb8.out.2)).trans Hb8.out.2)).1
  by_cases hE : ¬ E = 0
  · have hE1 : (E == 0) = false := by simp [hE]
    have hE2 : (E != 0) = true := by simp [hE]
    obtain rfl := Nw5.out hE
    obtain rfl := Nw6.out hE
    go_wp2_with fail
    refine Calls.mono (same8_b va wb NW vc cb (xs ++ [91, 92, 93]) w6 (HAB.out _ B46.out).1 (HAB.out _ B46.out).2.1) ?_
    rintro e w7 ⟨rfl, hb7⟩
    have HB : Hid (Below W.heap.size W w7) := (HAB.out _ (btr B46.out hb7)).2.2.1
    clear hb7 hc8 HAB Bw5 Bw6 B46
    go_wp2
    go_ret
    exact ⟨rfl, HB.out⟩
  obtain rfl : E = 0 := by omega
  obtain ⟨o1, o2, o3, o4⟩ := HOk.out rfl
  have HTL : Hid (Ts.length = on + 1) := o1
  have HTB : Hid (∀ i, (Ts.getD i []).length ≤ 16384) := o4
  clear HOk o1 o2 o4 hE Nw5 Nw6
  go_upto_region 9 with fail
  clear hc8
  go_cut [11, 12] from 71 to 79 (fun sa sb wx => ∃ (b : Nat) (v : Value), v = sa ∧ sb = .pointer (some ⟨b, 0, none⟩) ∧ Below w6.heap.size w6 wx ∧ w6.heap.size ≤ b ∧ wx.heap[b]? = some (.cells #[.int .i64 0, .int .i64 A, .int .i64 0] 32 (0, 0)) ∧ ((0 : Int) = 0 → LLs wx w6.heap.size v Ts) ∧ ((0 : Int) ≠ 0 → v = .slice none 0 0))
  case first =>
    refine regionC (fun w' => Below w6.heap.size w6 w') (by kernel_rfl) ?_
    obtain ⟨wd, hwd⟩ : ∃ wd, w6.drew = wd := ⟨_, rfl⟩
    have HD : Hid (Below w6.heap.size w6 wd) := by unfold Hid; rw [← hwd]; exact (Below.refl _ _).drew
    rw [hwd]
    clear hwd
    have K0 : Hid (∀ w', Below w6.heap.size w6 w' → ∀ q v, [.int .i64 h, .int .i64 w, .int .i64 c, .int .i64 lo, .int .i64 hi, .slice oa on oc, .int .i64 ot][q]? = some v → w'.cell? ((⟨W.heap.size, 0, none⟩ : Addr).add q) = some v) := fun w' hw' => lcells (HAB.out w' (btr B46.out (hw'))).2.2.2.2 (fget [.int .i64 h, .int .i64 w, .int .i64 c, .int .i64 lo, .int .i64 hi, .slice oa on oc, .int .i64 ot] [])
    refine takeC 0 (v := .agg #[.int .i64 h, .int .i64 w, .int .i64 c, .int .i64 lo, .int .i64 hi, .slice oa on oc, .int .i64 ot]) rfl rfl (by kernel_rfl) (by kernel_rfl) (by kernel_rfl) (fun _ _ _ h => h) (fun _ => rfl) rfl (fun w' hw' => run_la 26 (.tmp 2) rfl ⟨W.heap.size, 0, none⟩ (by kernel_rfl) [.int .i64 h, .int .i64 w, .int .i64 c, .int .i64 lo, .int .i64 hi, .slice oa on oc, .int .i64 ot] _ (K0.out w' hw') Tryz.underlying26 rfl (by kernel_rfl)) ?_
    refine takeC 1 (v := .slice va NW vc) rfl rfl (by kernel_rfl) (by kernel_rfl) (by kernel_rfl) (fun _ _ _ h => h) (fun _ => rfl) rfl (fun w' hw' => by go_simp) ?_
    refine takeC 2 (v := .slice ad n cap) rfl rfl (by kernel_rfl) (by kernel_rfl) (by kernel_rfl) (fun _ _ _ h => h) (fun _ => rfl) rfl (fun w' hw' => by go_simp) ?_
    refine takeC 3 (v := .int .i64 (n : Int)) rfl rfl (by kernel_rfl) (by kernel_rfl) (by kernel_rfl) (fun _ _ _ h => h) (fun _ => rfl) rfl (fun w' hw' => by go_simp) ?_
    refine takeC 4 (v := .slice va n vc) rfl rfl (by kernel_rfl) (by kernel_rfl) (by kernel_rfl) (fun _ _ _ h => h) (fun _ => rfl) rfl (fun w' hw' => by go_simp; try omega) ?_
    refine twoC 5 9 HD.out (by kernel_rfl) ?_ ?_
    · refine opK rfl rfl 7 #[.agg #[.int .i64 h, .int .i64 w, .int .i64 c, .int .i64 lo, .int .i64 hi, .slice oa on oc, .int .i64 ot], .slice va n vc] (by kernel_rfl) (hPT.out wd va vc (HAB.out _ (btr B46.out (HD.out))).2.2.1 (HAB.out _ (btr B46.out (HD.out))).2.2.2.1) ?_
      rintro e wz ⟨⟨vz, rfl, hlz, hnz⟩, hbz⟩
      have HBZ : Hid (Below w6.heap.size w6 wz) := btr HD.out hbz
      refine ⟨_, rfl, ?_⟩
      refine takeC 6 (v := .tuple #[vz, .agg #[.int .i64 0, .int .i64 A, .int .i64 0]]) rfl rfl (by kernel_rfl) (by kernel_rfl) (by kernel_rfl) (fun _ _ _ h => h) (fun _ => rfl) rfl (fun w' hw' => by kernel_rfl) ?_
      refine takeC 7 (v := vz) rfl rfl (by kernel_rfl) (by kernel_rfl) (by kernel_rfl) (fun _ _ _ h => h) (fun _ => rfl) rfl (fun w' hw' => by kernel_rfl) ?_
      refine takeC 8 (v := .agg #[.int .i64 0, .int .i64 A, .int .i64 0]) rfl rfl (by kernel_rfl) (by kernel_rfl) (by kernel_rfl) (fun _ _ _ h => h) (fun _ => rfl) rfl (fun w' hw' => by kernel_rfl) ?_
      refine stepR 9 HBZ.out (by kernel_rfl) rfl rfl (.pointer (some ⟨wz.heap.size, 0, none⟩)) (wz.alloc (.cells #[.int .i64 0, .int .i64 0, .int .i64 0] 32)) (by kernel_rfl) ?_
      refine stepR 10 (btr HBZ.out (bal _ _)) (by kernel_rfl) rfl rfl vz (wz.alloc (.cells #[.int .i64 0, .int .i64 0, .int .i64 0] 32)) (by kernel_rfl) ?_
      refine stepS 11 (btr HBZ.out (bal _ _)) (by kernel_rfl) rfl rfl 32 (.tmp 12) (.tmp 79) rfl wz.heap.size #[.int .i64 0, .int .i64 A, .int .i64 0] (by kernel_rfl) (by kernel_rfl) 32 #[.int .i64 0, .int .i64 0, .int .i64 0] (heap_alloc_new wz _) (by kernel_rfl) rfl (by simp [Value.oneCell']) ?_
      rw [World.setRow_alloc_new]
      refine doneC (btr HBZ.out (bal _ _)) (by kernel_rfl) ?_ _
      refine (show ∀ a' w', Met _ a' w' → _ from by assumption) _ _ ?_
      refine Met.intro ?_
      go_step
      exact ⟨vz, .pointer (some ⟨wz.heap.size, 0, none⟩), .tuple #[vz, .agg #[.int .i64 0, .int .i64 A, .int .i64 0]], .agg #[.int .i64 h, .int .i64 w, .int .i64 c, .int .i64 lo, .int .i64 hi, .slice oa on oc, .int .i64 ot], .slice va NW vc, .slice ad n cap, .int .i64 (n : Int), .slice va n vc, .tuple #[vz, .agg #[.int .i64 0, .int .i64 A, .int .i64 0]], vz, .agg #[.int .i64 0, .int .i64 A, .int .i64 0], ⟨wz.heap.size, vz, rfl, rfl, btr HBZ.out (bal _ _), HBZ.out.size, heap_alloc_new wz _, fun q => ((hlz q).base HD.out.size).below (bal _ _), hnz⟩, by kernel_rfl⟩
    · refine opR rfl rfl (.pointer (some ⟨wd.heap.size, 0, none⟩)) (wd.alloc (.cells #[.int .i64 0, .int .i64 0, .int .i64 0] 32)) (by kernel_rfl) ?_
      have HD2 : Hid (Below w6.heap.size w6 (wd.alloc (.cells #[.int .i64 0, .int .i64 0, .int .i64 0] 32))) := btr HD.out (bal _ _)
      refine stepK 5 HD2.out (by kernel_rfl) rfl rfl 7 #[.agg #[.int .i64 h, .int .i64 w, .int .i64 c, .int .i64 lo, .int .i64 hi, .slice oa on oc, .int .i64 ot], .slice va n vc] (by kernel_rfl) (hPT.out _ va vc (HAB.out _ (btr B46.out (HD2.out))).2.2.1 (HAB.out _ (btr B46.out (HD2.out))).2.2.2.1) ?_
      rintro e wz ⟨⟨vz, rfl, hlz, hnz⟩, hbz⟩
      have HBZ : Hid (Below w6.heap.size w6 wz) := btr HD2.out hbz
      have hhz : wz.heap[wd.heap.size]? = some (.cells #[.int .i64 0, .int .i64 0, .int .i64 0] 32 (0, 0)) := (hbz.block _ (by simp)).trans (heap_alloc_new wd _)
      refine ⟨_, rfl, ?_⟩
      refine takeC 6 (v := .tuple #[vz, .agg #[.int .i64 0, .int .i64 A, .int .i64 0]]) rfl rfl (by kernel_rfl) (by kernel_rfl) (by kernel_rfl) (fun _ _ _ h => h) (fun _ => rfl) rfl (fun w' hw' => by kernel_rfl) ?_
      refine takeC 7 (v := vz) rfl rfl (by kernel_rfl) (by kernel_rfl) (by kernel_rfl) (fun _ _ _ h => h) (fun _ => rfl) rfl (fun w' hw' => by kernel_rfl) ?_
      refine takeC 8 (v := .agg #[.int .i64 0, .int .i64 A, .int .i64 0]) rfl rfl (by kernel_rfl) (by kernel_rfl) (by kernel_rfl) (fun _ _ _ h => h) (fun _ => rfl) rfl (fun w' hw' => by kernel_rfl) ?_
      refine stepR 10 HBZ.out (by kernel_rfl) rfl rfl vz wz (by kernel_rfl) ?_
      refine stepS 11 HBZ.out (by kernel_rfl) rfl rfl 32 (.tmp 12) (.tmp 79) rfl wd.heap.size #[.int .i64 0, .int .i64 A, .int .i64 0] (by kernel_rfl) (by kernel_rfl) 32 #[.int .i64 0, .int .i64 0, .int .i64 0] hhz (by kernel_rfl) rfl (by simp [Value.oneCell']) ?_
      have hSZ : Below w6.heap.size w6 (wz.setRow wd.heap.size #[.int .i64 0, .int .i64 A, .int .i64 0]) := below_setRow HBZ.out HD.out.size _
      refine doneC hSZ (by kernel_rfl) ?_ _
      refine (show ∀ a' w', Met _ a' w' → _ from by assumption) _ _ ?_
      refine Met.intro ?_
      go_step
      exact ⟨vz, .pointer (some ⟨wd.heap.size, 0, none⟩), .tuple #[vz, .agg #[.int .i64 0, .int .i64 A, .int .i64 0]], .agg #[.int .i64 h, .int .i64 w, .int .i64 c, .int .i64 lo, .int .i64 hi, .slice oa on oc, .int .i64 ot], .slice va NW vc, .slice ad n cap, .int .i64 (n : Int), .slice va n vc, .tuple #[vz, .agg #[.int .i64 0, .int .i64 A, .int .i64 0]], vz, .agg #[.int .i64 0, .int .i64 A, .int .i64 0], ⟨wd.heap.size, vz, rfl, rfl, hSZ, HD.out.size, setRow_heap _ _ _ _ _ _ hhz, fun q => ((hlz q).base HD2.out.size).setRow hhz (by decide) (by decide), hnz⟩, by kernel_rfl⟩
  obtain ⟨b12, vb11, rfl, rfl, h1, h2, h3, h4, h5⟩ := hcut
  obtain ⟨w9, rfl⟩ : ∃ w', w' = wc := ⟨_, rfl⟩
  have Bw9 : Hid (Below w6.heap.size w6 w9) := h1
  have Hb12 : Hid (w6.heap.size ≤ b12 ∧ w9.heap[b12]? = some (.cells #[.int .i64 0, .int .i64 A, .int .i64 0] 32 (0, 0))) := ⟨h2, h3⟩
  have Lw9 : Hid ((0 : Int) = 0 → LLs w9 w6.heap.size vb11 Ts) := h4
  have Nw9 : Hid ((0 : Int) ≠ 0 → vb11 = .slice none 0 0) := h5
  clear h1 h2 h3 h4 h5
  obtain ⟨ss, hO5, hE5⟩ := Lw5.out rfl
  have hY := Lw6.out rfl
  have hB := Lw9.out rfl
  obtain ⟨aa, ca, rfl⟩ := hO5.slice
  obtain ⟨ay, cy, rfl, -, -⟩ := hY.row
  obtain ⟨NY, hNY⟩ : ∃ NY, (Ts.getD io []).length = NY := ⟨_, rfl⟩
  obtain ⟨NA, hNA⟩ : ∃ NA, ss.length = NA := ⟨_, rfl⟩
  rw [hNY] at hY ⊢
  rw [hNA] at hO5 ⊢
  have HNA : Hid (ss.length = NA ∧ 0 < ss.length ∧ ss.length ≤ 1000 ∧ NA = on + 1) := by have e1 := hE5.1; have e2 := HTL.out; exact ⟨hNA, by omega, by omega, by omega⟩
  have HO : Hid (ORs (w9.alloc (.cells #[.slice ay NY cy] 27)) w4.heap.size (.slice aa NA ca) ss) := hO5.below (btr (btr Bw6.out Bw9.out) (bal _ _))
  have HE5 : Hid (Ells w5 w4.heap.size ss Ts) := hE5
  have HY : Hid (Own .i8 41 w6 w5.heap.size (.slice ay NY cy) (Ts.getD io [])) := hY
  have HB : Hid (LLs w9 w6.heap.size vb11 Ts) := hB
  clear hO5 hE5 hY hNY hNA hB Lw5 Lw6 Lw9
  go_upto_region 11 with (at_builtin; refine wpList_joinS rfl (.tmp 81) (.tmp 82) rfl w9.heap.size (.slice ay NY cy) rfl (heap_alloc_new w9 _) w4.heap.size (.slice aa NA ca) ss rfl HO.out HNA.out.2.1 HNA.out.2.2.1 HE5.out.one ?_; intro v13 w13 hO13 gr13; have HO13 : Hid (ORs w13 w9.heap.size v13 (.slice ay NY cy :: ss)) := hO13; have B13 : Hid (Below w9.heap.size w9 w13) := (bal w9 _).grown gr13 (by simp) (fun k e => by cases e; exact Nat.le_refl _); clear hO13 gr13)
  obtain ⟨al, cl, rfl⟩ := HO13.out.slice
  obtain ⟨M, hM⟩ : ∃ M, (Value.slice ay NY cy :: ss).length = M := ⟨_, rfl⟩
  have HM : Hid (M = on + 2 ∧ Ts.length + 1 = M) := by have e1 := HNA.out.2.2.2; have e2 := HNA.out.1; have e3 := HTL.out; rw [List.length_cons] at hM; exact ⟨by omega, by omega⟩
  have hM1 : 2 ≤ M := by have := HM.out.1; omega
  have hM2 : M ≤ 66 := by have := HM.out.1; omega
  have hF13 := fam_mk (s := w13.heap.size) HE5.out Bw6.out HY.out (btr Bw9.out B13.out) Bw5.out.size
  rw [HM.out.2] at hF13
  have hO13 := HO13.out
  rw [hM] at hO13 ⊢
  obtain ⟨VS, hVS⟩ : ∃ VS, (Value.slice ay NY cy :: ss) = VS := ⟨_, rfl⟩
  rw [hVS] at hO13 hF13
  obtain ⟨V, hV⟩ : ∃ V : Nat → Value, (fun i => VS.getD i (.slice none 0 0)) = V := ⟨_, rfl⟩
  obtain ⟨F0, hF0⟩ : ∃ F0 : Nat → List Int, (fun i => (Ts.getD io [] :: Ts).getD i []) = F0 := ⟨_, rfl⟩
  rw [hV, hF0] at hF13
  obtain ⟨LN, hLN⟩ : ∃ LN : Nat → Nat, (fun i => (F0 i).length) = LN := ⟨_, rfl⟩
  have HLN : Hid (∀ i, (F0 i).length = LN i) := fun i => by rw [← hLN]
  have hLb : ∀ i, LN i ≤ 16384 := fun i => by
    rw [← hLN, ← hF0]
    cases i with
    | zero => exact HTB.out io
    | succ i => exact HTB.out i
  have hB413 : Below w4.heap.size w4 w13 := btr (btr B46.out Bw9.out) B13.out
  obtain ⟨bl, hbl⟩ : ∃ bl, w4.heap.size = bl := ⟨_, rfl⟩
  obtain ⟨bh, hbh⟩ : ∃ bh, w6.heap.size = bh := ⟨_, rfl⟩
  obtain ⟨s, hs⟩ : ∃ s, w13.heap.size = s := ⟨_, rfl⟩
  have hbls : bl ≤ s := by rw [← hbl, ← hs]; exact hB413.size
  have hO13' : ORs w13 bh (.slice al M cl) VS := ors_base hO13 (by rw [← hbh]; exact Bw9.out.size)
  have hB13 : LLs w13 bh vb11 Ts := by rw [← hbh]; exact HB.out.below B13.out
  obtain ⟨gl, rfl, -⟩ := hO13'.cell (i := 0) (by omega)
  have hcl : M ≤ cl ∧ cl ≤ 9223372036854775807 := by
    obtain ⟨g', c', e, -, -, q1, q2, -⟩ := hO13'.at (by have := hO13'.slice; obtain ⟨_, _, e⟩ := this; simp only [Value.slice.injEq] at e; omega)
    simp only [Value.slice.injEq] at e
    obtain ⟨-, e1, e2⟩ := e
    unfold maxLen at q2
    omega
  have HCl : Hid (∀ w', Outs bl bh w13 w' → (∀ i, i < M → w'.cell? ⟨gl, i, none⟩ = some (V i)) ∧ LLs w' bh vb11 Ts ∧ Below w4.heap.size w4 w') := fun w' q => ⟨fun i hi => by
    obtain ⟨g', e, hc⟩ := (q.ors hO13').cell hi
    cases e
    rw [← hV]
    exact hc, q.lls hB13, by rw [hbl] at hB413 ⊢; exact q.below hB413 (by omega)⟩
  rw [hbl, hbh, hs] at hF13
  have HF : Hid (Fam bl bh s w13 M V F0) := hF13
  have Hs : Hid (s = w13.heap.size) := hs.symm
  clear hF13 hO13 hO13' hB13 hV hF0 hLN hVS hM HO13 HO HE5 HY HB HNA HTB hs hbl hbh hB413 B13 Bw9 B46 Bw5 Bw6 Hb8 Hb10 Hb12
  go_wp2
  go_loopw [86] (fun i wq => ∃ (j : Nat) (F : Nat → List Int), j ≤ M ∧ i = .int .i64 j ∧ (∀ q, q < j → F q = List.replicate (LN q) (w8 q)) ∧ (∀ q, q < M → (F q).length = LN q) ∧ Fam bl bh s wq M V F ∧ Outs bl bh w13 wq) (fun i _ => M - (intOf i).toNat)
  case atStart => exact ⟨0, F0, by omega, rfl, fun q hq => absurd hq (by omega), fun q _ => HLN.out q, HF.out, Outs.refl _ _ _⟩
  obtain ⟨j, F1, hj, rfl, hfl, hln, hfam, hout⟩ := hrel
  have Hfl : Hid (∀ q, q < j → F1 q = List.replicate (LN q) (w8 q)) := hfl
  have Hln : Hid (∀ q, q < M → (F1 q).length = LN q) := hln
  have Hfam : Hid (Fam bl bh s wr M V F1) := hfam
  have Hout : Hid (Outs bl bh w13 wr) := hout
  clear hfl hln hfam hout
  by_cases hlt : j < M
  · obtain ⟨aj, cj, hVj, hrow, -⟩ := (Hfam.out.1 j hlt).row
    rw [Hln.out j hlt] at hVj hrow
    have hcell : wr.cell? ⟨gl, j, none⟩ = some (.slice aj (LN j) cj) := by rw [(HCl.out _ Hout.out).1 j hlt, hVj]
    have HV : Hid (V j = .slice aj (LN j) cj) := hVj
    have hlj := hLb j
    have hcj := hrow.2.1
    have hcm := hrow.2.2.1
    unfold maxLen at hcm
    clear hVj hrow
    go_wp2
    go_loopw [93] (fun i wq => ∃ (k : Nat) (F2 : Nat → List Int), k ≤ LN j ∧ i = .int .i64 k ∧ (∀ q, q < k → (F2 j)[q]? = some (w8 j)) ∧ (∀ q, q ≠ j → F2 q = F1 q) ∧ (F2 j).length = LN j ∧ Fam bl bh s wq M V F2 ∧ Outs bl bh w13 wq) (fun i _ => LN j - (intOf i).toNat)
    case atStart => exact ⟨0, F1, Nat.zero_le _, rfl, fun q hq => absurd hq (by omega), fun _ _ => rfl, Hln.out j hlt, Hfam.out, Hout.out⟩
    obtain ⟨k, F2, hk, rfl, h1, h2, h3, h4, h5⟩ := hrel
    have H1 : Hid (∀ q, q < k → (F2 j)[q]? = some (w8 j)) := h1
    have H2 : Hid (∀ q, q ≠ j → F2 q = F1 q) := h2
    have H3 : Hid ((F2 j).length = LN j) := h3
    have H4 : Hid (Fam bl bh s wr M V F2) := h4
    have H5 : Hid (Outs bl bh w13 wr) := h5
    clear h1 h2 h3 h4 h5 hcell
    by_cases hkl : k < LN j
    · have own := H4.out.1 j hlt
      rw [HV.out] at own
      obtain ⟨g, rfl⟩ : ∃ g, aj = some ⟨g, 0, none⟩ := by
        rcases own.shape with ⟨e, -⟩ | ⟨g, cap', e, -⟩
        · simp only [Value.slice.injEq] at e; omega
        · simp only [Value.slice.injEq] at e; exact ⟨g, e.1⟩
      obtain ⟨-, -, -, -, -, row, fr⟩ := own.facts
      obtain ⟨y, d, hy, hc, -, -, -⟩ := row.at hkl
      obtain rfl := Option.some.inj hy
      rw [Addr.add_lit, Nat.zero_add] at hc
      have HS : Hid (Fam bl bh s (wr.setCell ⟨g, k, none⟩ (.int .i8 (j : Int))) M V (upd F2 j ((F2 j).set k (w8 j))) ∧ Outs bl bh w13 (wr.setCell ⟨g, k, none⟩ (.int .i8 (j : Int)))) := by
        unfold Hid
        have q := H4.out.set (k := k) (z := w8 j) hlt HV.out (wrap_wf8 _) Hs.out H5.out
        rw [w8_lo (show j ≤ 127 by omega)] at q ⊢
        exact q
      clear own row hy
      go_wp2
      go_roundw
      case rel => exact ⟨k + 1, _, by omega, by go_num, by rw [upd_same]; exact fill_set H3.out hkl H1.out, fun q hq => by rw [upd_other _ _ hq]; exact H2.out q hq, by rw [upd_same, List.length_set]; exact H3.out, HS.out.1, HS.out.2⟩
      case measure => simp [intOf]; omega
    · have HN : Hid ((∀ q, q < j + 1 → F2 q = List.replicate (LN q) (w8 q)) ∧ (∀ q, q < M → (F2 q).length = LN q)) := by
        refine ⟨fun q hq => ?_, fun q hq => ?_⟩
        · by_cases e : q = j
          · subst e; exact fill_all H3.out fun i hi => H1.out i (by omega)
          · rw [H2.out q e]; exact Hfl.out q (by omega)
        · by_cases e : q = j
          · subst e; exact H3.out
          · rw [H2.out q e]; exact Hln.out q hq
      go_wp2
      go_roundw
      case rel => exact ⟨j + 1, F2, by omega, by go_num, HN.out.1, HN.out.2, H4.out, H5.out⟩
      case measure => simp [intOf]; omega
  obtain rfl : j = M := by omega
  obtain ⟨wo, rfl⟩ : ∃ wo, wo = wr := ⟨_, rfl⟩
  have HF3 : Hid (Fam bl bh s wo j V (fl LN 0)) := Hfam.out.congr fun q hq => by rw [fl_0]; exact Hfl.out q hq
  clear Hfam Hfl Hln hlt hj
  obtain ⟨M, rfl⟩ : ∃ M, M = j := ⟨_, rfl⟩
  go_wp2
  go_loopw [17, 105] (fun gv i wq => ∃ (j : Nat) (Gs : List Value) (V2 : Nat → Value) (gv0 : Value), gv0 = gv ∧ j ≤ M ∧ i = .int .i64 j ∧ Gs.length = j ∧ (∀ q, q < j → Gs.getD q (.slice none 0 0) = V2 q) ∧ (∀ q, j ≤ q → V2 q = V q) ∧ ORs wq s gv Gs ∧ Fam bl bh s wq M V2 (fl LN j) ∧ Outs bl bh w13 wq) (fun _ i _ => M - (intOf i).toNat)
  case atStart => exact ⟨0, [], V, _, rfl, by omega, rfl, rfl, fun q hq => absurd hq (by omega), fun _ _ => rfl, World.ownsRow_nil _ _ _ _, HF3.out, Hout.out⟩
  obtain ⟨j, Gs, V2, gv, hgv, hj, rfl, hGl, hG, hV2, hown, hfam, hou⟩ := hrel
  subst hgv
  have HGl : Hid (Gs.length = j) := hGl
  have HG : Hid (∀ q, q < j → Gs.getD q (.slice none 0 0) = V2 q) := hG
  have HV2 : Hid (∀ q, j ≤ q → V2 q = V q) := hV2
  have Hown : Hid (ORs wr s gv Gs) := hown
  have Hfam : Hid (Fam bl bh s wr M V2 (fl LN j)) := hfam
  have Hou : Hid (Outs bl bh w13 wr) := hou
  clear hGl hG hV2 hown hfam hou HF3 Hout
  by_cases hlt : j < M
  · have hO := Hfam.out.1 j hlt
    rw [fl_hi (Nat.le_refl _), lst_0, HV2.out j (Nat.le_refl _)] at hO
    obtain ⟨aj, cj, hVj, hrow, -⟩ := hO.row
    rw [List.length_replicate] at hVj hrow
    have hcell : wr.cell? ⟨gl, j, none⟩ = some (.slice aj (LN j) cj) := by rw [(HCl.out _ Hou.out).1 j hlt, hVj]
    have HV : Hid (upd V2 j (.slice aj (LN j) cj) = V2) := by unfold Hid; rw [← hVj, ← HV2.out j (Nat.le_refl _)]; exact upd_id _ _
    have HFj : Hid (Fam bl bh s wr M (upd V2 j (.slice aj (LN j) cj)) (upd (fl LN j) j (lst (LN j) j 0))) := by
      unfold Hid
      rw [HV.out, fl_at]
      exact Hfam.out
    have hlj := hLb j
    clear hVj hrow hO
    obtain ⟨wj, rfl⟩ : ∃ wj, wj = wr := ⟨_, rfl⟩
    go_wp2
    go_loopw [19, 110] (fun l i wq => ∃ (k : Nat) (l0 : Value), l0 = l ∧ k ≤ 40 ∧ i = .int .i64 k ∧ ORs wq s gv Gs ∧ Fam bl bh s wq M (upd V2 j l) (upd (fl LN j) j (lst (LN j) j k)) ∧ Outs bl bh w13 wq) (fun _ i _ => 40 - (intOf i).toNat)
    case atStart => exact ⟨0, _, rfl, by omega, rfl, Hown.out, HFj.out, Hou.out⟩
    obtain ⟨k, l, hle, hk, rfl, h1, h2, h3⟩ := hrel
    subst hle
    have H1 : Hid (ORs wr s gv Gs) := h1
    have H2 : Hid (Fam bl bh s wr M (upd V2 j l) (upd (fl LN j) j (lst (LN j) j k))) := h2
    have H3 : Hid (Outs bl bh w13 wr) := h3
    have hsz : s ≤ wr.heap.size := by rw [Hs.out]; exact h3.2.2.2.1
    clear h1 h2 h3 hcell HFj
    by_cases hk40 : k < 40
    · have hO : Hid (Own .i8 41 (wr.alloc (.cells #[.int .i8 (w8 (j + 100))] 41)) bl l (lst (LN j) j k)) := by
        have := H2.out.1 j hlt
        rw [upd_same, upd_same] at this
        exact this.alloc _
      obtain ⟨X, hX⟩ : ∃ X, lst (LN j) j k = X := ⟨_, rfl⟩
      have HX2 : Hid (lst (LN j) j (k + 1) = X ++ [w8 (j + 100)]) := by unfold Hid; rw [← hX]; exact lst_succ _ _ _
      have HXL : Hid (X.length + 1 ≤ 100000000) := by unfold Hid; rw [← hX, lst_len]; omega
      rw [hX] at hO H2
      clear hX
      go_wp2_with (at_builtin; refine wpList_app8 rfl (.tmp 112) (.tmp 116) rfl bl l X [w8 (j + 100)] rfl hO.out ⟨wr.heap.size, 0, none⟩ 1 1 rfl (row_one .i8 41 wr (w8 (j + 100)) (wrap_wf8 _)) (by decide) HXL.out (by simp; omega) ?_; intro v' w' own' or' gr')
      have HA : Hid (Fam bl bh s (wr.alloc (.cells #[.int .i8 (w8 (j + 100))] 41)) M (upd V2 j l) (upd (fl LN j) j X)) := H2.out.below (bal _ _)
      have HN : Hid (ORs w' s gv Gs ∧ Fam bl bh s w' M (upd V2 j v') (upd (fl LN j) j (lst (LN j) j (k + 1))) ∧ Outs bl bh w13 w') := by
        unfold Hid
        have hgr : (wr.alloc (.cells #[.int .i8 (w8 (j + 100))] 41)).grownBy w' (upd V2 j l j).ownBlock := by rw [upd_same]; exact gr'
        refine ⟨HA.out.ors hlt hgr (H1.out.below (bal _ _)), ?_, HA.out.out hlt hgr (H3.out.bel (bal _ _)) Hs.out⟩
        have := HA.out.put hlt hgr own' (by rw [upd_same]; exact or') (by simp; omega)
        rw [upd_upd, upd_upd] at this
        rw [HX2.out]
        exact this
      clear own' or' gr'
      go_roundw
      case rel => exact ⟨k + 1, v', rfl, by omega, by go_num, HN.out.1, HN.out.2.1, HN.out.2.2⟩
      case measure => simp [intOf]; omega
    · obtain rfl : k = 40 := by omega
      have hO := H2.out.1 j hlt
      rw [upd_same, upd_same] at hO
      obtain ⟨gg, cg, rfl⟩ : ∃ gg cg, l = .slice (some ⟨gg, 0, none⟩) (LN j + 40) cg := by
        rcases hO.shape with ⟨-, e⟩ | ⟨g, cap', e, -⟩
        · have := congrArg List.length e; rw [lst_len] at this; simp at this
        · rw [lst_len] at e; exact ⟨g, cap', e⟩
      clear hO
      obtain ⟨sv, hsv⟩ : ∃ sv, Value.slice (some ⟨gg, 0, none⟩) (LN j + 40) cg = sv := ⟨_, rfl⟩
      have HL : Hid (ORs (wr.alloc (.cells #[.slice (some ⟨gg, 0, none⟩) (LN j + 40) cg] 27)) s gv Gs) := H1.out.below (bal _ _)
      have hcell : Hid ((wr.alloc (.cells #[.slice (some ⟨gg, 0, none⟩) (LN j + 40) cg] 27)).cell? ((⟨wr.heap.size, 0, none⟩ : Addr).add 0) = some (.slice (some ⟨gg, 0, none⟩) (LN j + 40) cg)) := by
        unfold Hid
        rw [Addr.add_lit]; exact (cells_at (heap_alloc_new wr _)).1 0
      clear hsv
      go_wp2_with (at_builtin; refine wpList_appS rfl (.tmp 119) (.tmp 121) rfl s gv Gs (.slice (some ⟨gg, 0, none⟩) (LN j + 40) cg) rfl HL.out ⟨wr.heap.size, 0, none⟩ rfl hcell.out rfl (by have := HGl.out; omega) (by simp; omega) ?_; intro v' w' own' gr')
      have HN : Hid (ORs w' s v' (Gs ++ [.slice (some ⟨gg, 0, none⟩) (LN j + 40) cg]) ∧ Fam bl bh s w' M (upd V2 j (.slice (some ⟨gg, 0, none⟩) (LN j + 40) cg)) (fl LN (j + 1)) ∧ Outs bl bh w13 w') := by
        refine ⟨own', ?_, grow_out HL.out gr' (H3.out.bel (bal _ _)) (by rw [Hs.out]; exact Nat.le_refl _)⟩
        exact Fam.congr ((H2.out.below (bal _ _)).grown gr' fun b e => (HL.out.ty b e).2) fun q hq => fl_succ
      have HG2 : Hid ((∀ q, q < j + 1 → (Gs ++ [Value.slice (some ⟨gg, 0, none⟩) (LN j + 40) cg]).getD q (.slice none 0 0) = upd V2 j (.slice (some ⟨gg, 0, none⟩) (LN j + 40) cg) q) ∧ ∀ q, j + 1 ≤ q → upd V2 j (.slice (some ⟨gg, 0, none⟩) (LN j + 40) cg) q = V q) := by
        refine ⟨fun q hq => ?_, fun q hq => ?_⟩
        · by_cases e : q = j
          · rw [e, upd_same]; have e' := HGl.out; rw [show j = Gs.length from e'.symm, getD_app_one]
          · rw [upd_other _ _ e, getD_app_l (by have := HGl.out; omega)]; exact HG.out q (by omega)
        · rw [upd_other _ _ (by omega)]; exact HV2.out q (by omega)
      clear own' gr'
      go_roundw
      case rel => exact ⟨j + 1, _, _, v', rfl, by omega, by go_num, by rw [List.length_append, HGl.out]; rfl, HG2.out.1, HG2.out.2, HN.out.1, HN.out.2.1, HN.out.2.2⟩
      case measure => simp [intOf]; omega
  obtain rfl : j = M := by omega
  obtain ⟨w7, rfl⟩ : ∃ w', w' = wr := ⟨_, rfl⟩
  obtain ⟨M, rfl⟩ : ∃ M, M = j := ⟨_, rfl⟩
  obtain ⟨gB, cB, rfl, -, -, hcB1, hcB2, hcB3, -⟩ := Hown.out.at (by have := HGl.out; omega)
  rw [HGl.out] at hcB1 hcB3 ⊢
  unfold maxLen at hcB2
  have HGF : Hid (∀ i, i < M → ∃ gg cg, w7.cell? ⟨gB, i, none⟩ = some (.slice (some ⟨gg, 0, none⟩) (LN i + 40) cg) ∧ IRow .i8 w7 (some ⟨gg, 0, none⟩) (LN i + 40) cg (lst (LN i) i 40)) := by
    intro i hi
    have hO := Hfam.out.1 i hi
    rw [fl_lo hi] at hO
    have hc := hcB3 i hi
    rw [HG.out i hi] at hc
    rcases hO.shape with ⟨-, e⟩ | ⟨g, cap', e, -⟩
    · have := congrArg List.length e; rw [lst_len] at this; simp at this
    · rw [lst_len] at e
      rw [e] at hO hc
      exact ⟨g, cap', hc, hO.irow⟩
  have HVL : Hid (∀ i, i < M → ∃ ai ci, w7.cell? ⟨gl, i, none⟩ = some (.slice ai (LN i) ci)) := by
    intro i hi
    obtain ⟨a', c', e, -, -⟩ := (HF.out.1 i hi).row
    exact ⟨a', c', by rw [(HCl.out _ Hou.out).1 i hi, e, HLN.out i]⟩
  have HK : Hid (LLs w7 bh vb11 Ts ∧ Below w4.heap.size w4 w7) := (HCl.out _ Hou.out).2
  clear Hown Hfam HG HV2 HGl hcB3 HCl Hou hlt hj HF HLN Hs
  go_wp2
  go_loop [126] (fun i => ∃ j : Nat, j ≤ M ∧ i = .int .i64 j) (fun i => M - (intOf i).toNat)
  case atStart => exact ⟨0, by omega, rfl⟩
  obtain ⟨j, hj, rfl⟩ := hrel
  by_cases hlt : j < M
  · obtain ⟨gg, cg, hcg, rG⟩ := HGF.out j hlt
    obtain ⟨ai, ci, hcv⟩ := HVL.out j hlt
    have hlj := hLb j
    have hcgc := rG.2.1
    have hcgm := rG.2.2.1
    unfold maxLen at hcgm
    have RG : Hid (IRow .i8 w7 (some ⟨gg, 0, none⟩) (LN j + 40) cg (lst (LN j) j 40)) := rG
    have hd6 : decide ((j : Int) < (M : Int)) = true := decide_eq_true (by omega)
    clear rG
    go_wp2
    go_loop [133] (fun i => ∃ k : Nat, k ≤ LN j + 40 ∧ i = .int .i64 k) (fun i => LN j + 40 - (intOf i).toNat)
    case atStart => exact ⟨0, Nat.zero_le _, rfl⟩
    obtain ⟨k, hk7, rfl⟩ := hrel
    by_cases hlt7 : k < LN j + 40
    · obtain ⟨y, d, hy, hc, -, hzk, -⟩ := RG.out.at hlt7
      obtain rfl := Option.some.inj hy
      rw [Addr.add_lit, Nat.zero_add] at hc
      by_cases hkl : k < LN j
      · rw [lst_lo hkl, w8_lo (show j ≤ 127 by omega)] at hzk
        obtain rfl := Option.some.inj hzk
        clear hy hzk
        go_wp2
        go_round
        case rel => exact ⟨k + 1, by omega, by go_num⟩
        case measure => simp [intOf]; omega
      · rw [lst_hi (by omega) hlt7, w8_hi] at hzk
        obtain rfl := Option.some.inj hzk
        clear hy hzk
        go_wp2
        go_round
        case rel => exact ⟨k + 1, by omega, by go_num⟩
        case measure => simp [intOf]; omega
    · go_wp2
      go_round
      case rel => exact ⟨j + 1, by omega, by go_num⟩
      case measure => simp [intOf]; omega
  clear HGF HVL
  have hG7 := (HAB.out _ HK.out.2).2.2.2.2
  have hc2 : ∀ i, w7.cell? ⟨W.heap.size, i, none⟩ = #[.int .i64 h, .int .i64 w, .int .i64 c, .int .i64 lo, .int .i64 hi, .slice oa on oc, .int .i64 ot][i]? := (cells_at hG7).1
  go_wp2_with fail
  refine Calls.mono (hRT.out w7 (HAB.out _ HK.out.2).2.2.1) ?_
  rintro e wx ⟨⟨v8, rfl, hl8, -⟩, hb8⟩
  have HT8 : TRd wx v8 Ts := (hl8 (by trivial)).rd
  obtain ⟨a8, c8, rfl, -⟩ := id HT8
  have hBr := (HK.out.1.below hb8).rd
  obtain ⟨a9, c9, rfl, -⟩ := id hBr
  have HA8 : Hid (TRd (wx.alloc (.cells #[.int .i64 0, .int .i64 A, .int .i64 0] 32)) (.slice a8 Ts.length c8) Ts ∧ TRd (wx.alloc (.cells #[.int .i64 0, .int .i64 A, .int .i64 0] 32)) (.slice a9 Ts.length c9) Ts ∧ Below w4.heap.size w4 (wx.alloc (.cells #[.int .i64 0, .int .i64 A, .int .i64 0] 32))) := ⟨HT8.below (bal _ _), hBr.below (bal _ _), btr HK.out.2 (btr hb8 (bal _ _))⟩
  clear hl8 hb8 HT8 hBr HK hG7 hc2
  go_upto_region 41 with fail
  obtain ⟨wq, hwq⟩ : ∃ wq, wx.alloc (.cells #[.int .i64 0, .int .i64 A, .int .i64 0] 32) = wq := ⟨_, rfl⟩
  rw [hwq] at HA8 ⊢
  clear hwq
  obtain ⟨TN, hTN⟩ : ∃ TN, Ts.length = TN := ⟨_, rfl⟩
  rw [hTN] at HA8 ⊢
  clear hTN
  have t1 := HA8.out.1.len
  have t2 := HA8.out.2.1.len
  unfold maxLen at t1 t2
  have t1a := t1.2.1
  have t1b := t1.2.2
  have t2a := t2.2.1
  have t2b := t2.2.2
  clear t1 t2
  go_wp2
  go_loopw [182] (fun i wr => ∃ k q : Nat, k ≤ TN ∧ i = .int .i64 k ∧ wr = wq.drewN q) (fun i _ => TN - (intOf i).toNat)
  case atStart => exact ⟨0, 0, Nat.zero_le _, rfl, rfl⟩
  obtain ⟨k, q, hk, rfl, rfl⟩ := hrel
  by_cases hlt : k < TN
  · obtain ⟨wp, hwp⟩ : ∃ wp, wq.drewN q = wp := ⟨_, rfl⟩
    have Hwp : Hid (wq.drewN q = wp) := hwp
    rw [hwp]
    clear hwp
    have Bq : Below wq.heap.size wq wp := by rw [← Hwp.out]; exact dbel _ _
    obtain ⟨g1, x1, y1, rfl, p1, r1⟩ := (HA8.out.1.below Bq).at hlt
    obtain ⟨g2, x2, y2, rfl, p2', r2⟩ := (HA8.out.2.1.below Bq).at hlt
    obtain ⟨KN, hKN⟩ : ∃ KN, (Ts.getD k []).length = KN := ⟨_, rfl⟩
    rw [hKN] at p1 p2' r1 r2
    have hS : Hid (∀ m, Calls Tryz.prog 11 #[.slice x2 KN y2, .slice x1 KN y1] (wp.drewN m) fun e w' => e = .returned (.bool true) ∧ ∃ m', w' = (wp.drewN m).drewN m') := fun m => same8_any x2 x1 KN y2 y1 (Ts.getD k []) _ (r2.below (dbel _ m)) (r1.below (dbel _ m))
    clear hKN r1 r2 Bq
    go_wp2
    go_quiet ((go_at_call 11; exact Calls.quiet_of (hS.out _)))
    go_wp2
    go_roundw
    case rel => exact ⟨k + 1, _, by omega, by go_num, by rw [← Hwp.out, World.drewN_drewN]⟩
    case measure => simp [intOf]; omega
  · have HBq : Hid (Below w4.heap.size w4 (wq.drewN q)) := btr HA8.out.2.2 (dbel _ _)
    go_wp2_with fail
    refine Calls.mono (same8_b va wb NW vc cb (xs ++ [91, 92, 93]) _ (HAB.out _ HBq.out).1 (HAB.out _ HBq.out).2.1) ?_
    rintro e wz ⟨rfl, hbz⟩
    have HZ : Hid (Below W.heap.size W wz) := (HAB.out _ (btr HBq.out hbz)).2.2.1
    clear hbz HAB HBq HA8
    go_wp2
    go_ret
    exact ⟨rfl, HZ.out⟩
end Go.Proofs.YtmcdpbnpnifdfaaGreat
