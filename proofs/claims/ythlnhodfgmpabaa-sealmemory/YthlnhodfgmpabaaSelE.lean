/- Encode of package seal: what it returns. -/
import Derived.Test.YthlnhodfgmpabaaSelV
import Derived.Test.YthlnhodfgmpabaaSelF
import Derived.Lib.SlBytesConst
namespace Go.Proofs.Ythlnhodfgmpabaa.Sl
open Wr
open Go.ChangeShapes Go.WideShapes Go.ChangeAt Go.RowKit
set_option linter.unusedVariables false
/-! ### Faults compared -/
theorem neF (a b c d e f : Int) (v : Bool) (h : decide (a = d ∧ b = e ∧ c = f) = v) : ∀ W, (binOp .neq 30 (.agg #[.int .i64 a, .int .i64 b, .int .i64 c]) (.agg #[.int .i64 d, .int .i64 e, .int .i64 f])).run Try.prog W = .ok (.bool (!v)) W := by
  intro W; subst h; simp [go_sem]; repeat' split
  all_goals simp_all
theorem eqF (a b c d e f : Int) (v : Bool) (h : decide (a = d ∧ b = e ∧ c = f) = v) : ∀ W, (binOp .eql 30 (.agg #[.int .i64 a, .int .i64 b, .int .i64 c]) (.agg #[.int .i64 d, .int .i64 e, .int .i64 f])).run Try.prog W = .ok (.bool v) W := by
  intro W; subst h; simp [go_sem]; repeat' split
  all_goals simp_all
/-- The bytes of a constant, as a row with its mark. -/
theorem row_mark (w : World) (zs : List Int) (hb : Byt zs) (hm : zs.length ≤ maxLen) (r : Nat × Nat) : Wr.Row (w.alloc (.cells (zs.map (Value.int .u8)).toArray 5 r)) (some ⟨w.heap.size, 0, none⟩) zs.length zs.length zs := by
  refine ⟨rfl, Nat.le_refl _, hm, hb, fun h => (by cases h), fun x hx i hi => ?_⟩
  cases hx
  rw [Addr.add_lit, Nat.zero_add]
  simp only [World.cell?, heap_alloc_new]
  simp [List.getD, hi]
theorem cv1 (w : World) (C : Array Value) (n c : Nat) : (convert 27 27 (.slice (some ⟨w.heap.size, 0, none⟩) n c)).run Try.prog (w.alloc (.cells C 5)) = .ok (.slice (some ⟨w.heap.size, 0, none⟩) n c) (w.alloc (.cells C 5 (C.size, C.size + 1))) :=
  Lib.run_convert_bytes_const (P := Try.prog) w 27 5 C n c Try.underlying27 Try.underlying5
theorem cv2 (w : World) (o : Obj) (C : Array Value) (n c : Nat) : (convert 27 27 (.slice (some ⟨w.heap.size + 1, 0, none⟩) n c)).run Try.prog ((w.alloc o).alloc (.cells C 5)) = .ok (.slice (some ⟨w.heap.size + 1, 0, none⟩) n c) ((w.alloc o).alloc (.cells C 5 (C.size, C.size + 1))) := by
  have := cv1 (w.alloc o) C n c
  simpa using this
theorem head_byt : Byt head4 := by intro z hz; simp only [head4, List.mem_cons, List.not_mem_nil, or_false] at hz; omega
theorem own_set3 {w : World} {base N : Nat} {v a b c : Value} {zs : List Int} {d : Array Value} {T : TypeId} (h : Wr.Own w base v zs) (hN : w.heap[N]? = some (.cells d T (0, 0))) (hT : 5 ≠ T) : Wr.Own (((w.setCell ⟨N, 0, none⟩ a).setCell ⟨N, 1, none⟩ b).setCell ⟨N, 2, none⟩ c) base v zs :=
  own_oth h fun g cs hg => by
    have hne := ne_ty hN hg hT
    rw [Below.heap_setCell _ _ _ _ hne, Below.heap_setCell _ _ _ _ hne, Below.heap_setCell _ _ _ _ hne]
    exact hg
theorem eCe_pos (c : CeD) : 0 < (eCe c).length := by have := putR_pos c.1.length; unfold eCe; rw [List.length_append]; omega
set_option maxHeartbeats 2000000 in
theorem encode_bad (ra : Option Addr) (rn rc : Nat) (R : List (Int × Int)) (pa : Option Addr) (pn pc : Nat) (P : List (List Pl)) (W : World) (hR : ERow 2 scs W ra rn rc R) (hP : QRow W pa pn pc P) (x1 x2 x3 : Int) (hX : fCe (R, P) = (x1, x2, x3)) (hx : x1 ≠ 0) :
    Calls Try.prog 10 #[.agg #[.slice ra rn rc, .slice pa pn pc]] W fun e w' => e = .returned (.tuple #[.slice none 0 0, .agg #[.int .i64 x1, .int .i64 x2, .int .i64 x3]]) ∧ Below W.heap.size W w' := by
  have hC : Hid (∀ w', Below W.heap.size W w' → _) := fun w' hb => faultof_any ra rn rc R pa pn pc P w' (hR.below hb) (hP.below hb) x1 x2 x3 hX
  have n3 := neF x1 x2 x3 0 0 0 false (by simp [hx])
  clear hR hP hX hx
  go_enter Try.func10, Try.ntmps10
  go_wp2_with fail
  refine Calls.mono (hC.out _ (St.start W).new.new.below) ?_
  rintro e w1 ⟨rfl, hb⟩
  have s1 := ((St.start W).new.new).call hb
  simp only [World.size_alloc] at s1
  obtain ⟨c1, f1, z1, c2, f2, z2, -⟩ := s1.rules
  have hs1 : Hid (Below W.heap.size W w1) := s1.below
  clear hb hC s1
  go_wp2
  go_region_law (fail)
  all_goals
    go_wp2
    exact bodyPost_ret (v := .tuple #[.slice none 0 0, .agg #[.int .i64 x1, .int .i64 x2, .int .i64 x3]]) (by simp [results, Try.results10, go_sem, *]) rfl ⟨rfl, (bt (set3b hs1.out (by omega)) (bal _ _)).drew⟩
set_option maxHeartbeats 2000000 in
set_option maxRecDepth 100000 in
theorem encode_ok (ra : Option Addr) (rn rc : Nat) (R : List (Int × Int)) (pa : Option Addr) (pn pc : Nat) (P : List (List Pl)) (W : World) (hR : ERow 2 scs W ra rn rc R) (hP : QRow W pa pn pc P) (hF : CeF (R, P)) :
    Calls Try.prog 10 #[.agg #[.slice ra rn rc, .slice pa pn pc]] W fun e w' => ∃ v, e = .returned (.tuple #[v, .agg #[.int .i64 0, .int .i64 0, .int .i64 0]]) ∧ Wr.Own w' W.heap.size v (eAll (R, P)) ∧ v ≠ .slice none 0 0 ∧ Below W.heap.size W w' := by
  have hC : Hid (∀ w', Below W.heap.size W w' → _) := fun w' hb => faultof_any ra rn rc R pa pn pc P w' (hR.below hb) (hP.below hb) 0 0 0 (fCe_ok hF)
  have HR : Hid (ERow 2 scs W ra rn rc R) := hR
  have HP : Hid (QRow W pa pn pc P) := hP
  have HF : Hid (CeF (R, P)) := hF
  have n3 := neF 0 0 0 0 0 0 true (by simp)
  have cv := cv2
  clear hR hP hF
  go_enter Try.func10, Try.ntmps10
  go_wp2_with fail
  refine Calls.mono (hC.out _ (St.start W).new.new.below) ?_
  rintro e w1 ⟨rfl, hb⟩
  have s1 := ((St.start W).new (c := #[.slice ra rn rc, .slice pa pn pc]) (t := 25)).new (c := #[.int .i64 0, .int .i64 0, .int .i64 0]) (t := 30)
  have s2 := s1.call hb
  simp only [World.size_alloc] at s2
  obtain ⟨c1, f1, z1, c2, f2, z2, -⟩ := s2.rules
  have s3 := ((s2.new (c := #[.int .i64 0, .int .i64 0, .int .i64 0]) (t := 30)).skip (.cells #[.int .u8 83, .int .u8 87, .int .u8 67, .int .u8 49] 5 (4, 5))).new (c := #[.slice (some ⟨w1.heap.size + 1, 0, none⟩) 4 4]) (t := 53)
  simp only [World.size_alloc] at s3
  have S3 : Hid (St W _ _) := s3
  have hR := ((row_mark (w1.alloc (.cells #[.int .i64 0, .int .i64 0, .int .i64 0] 30)) head4 head_byt (by unfold maxLen; simp [head4]) (4, 5)).below (bal _ (.cells #[.slice (some ⟨w1.heap.size + 1, 0, none⟩) 4 4] 53)))
  simp only [World.size_alloc] at hR
  have hT : Hid (Wt _ (w1.heap.size + 1 + 1) W.heap.size head4) := ⟨_, s3.h1, .inr ⟨_, rfl, hR⟩⟩
  clear hb hC s1 s2 s3 hR
  have HM := S3.out.h4
  go_wp2_with (refine wpList_load_row rfl 25 (.tmp 1) rfl W.heap.size rfl 25 _ (0, 0) _ HM Try.underlying25 rfl (by kernel_rfl) ?_)
  refine (wcert_any (w1.heap.size + 1 + 1) head4 ra rn rc R pa pn pc P W _ hT.out S3.out.below (by omega) HR.out HP.out HF.out (by simp [head4])).mono ?_
  rintro e w3 ⟨rfl, T3, K3⟩
  obtain ⟨v, hv, own, nn⟩ := T3
  have hB : Hid (w3.heap[W.heap.size + 1]? = some (.cells #[.int .i64 0, .int .i64 0, .int .i64 0] 30 (0, 0))) := K3.2 _ _ _ (by omega) (by decide) S3.out.h3
  have hbel : Hid (Below W.heap.size W w3) := S3.out.below.trans K3.1
  obtain ⟨va, vn, vc, rfl⟩ := own_ltr own nn
  have hown : Hid (Wr.Own w3 W.heap.size (.slice (some va) vn vc) (eAll (R, P))) := own
  clear K3 own c1 f1 z1 c2 f2 hT S3
  obtain ⟨c1, f1, z1⟩ := cells_at hB.out
  obtain ⟨c2, f2, z2⟩ := cells_at hv
  clear hv
  go_wp2
  exact bodyPost_ret (v := .tuple #[.slice (some va) vn vc, .agg #[.int .i64 0, .int .i64 0, .int .i64 0]]) (by simp [results, Try.results10, go_sem, *]) rfl ⟨_, rfl, own_set3 hown.out hB.out (by decide), by simp, set3b hbel.out (by omega)⟩
end Go.Proofs.Ythlnhodfgmpabaa.Sl
