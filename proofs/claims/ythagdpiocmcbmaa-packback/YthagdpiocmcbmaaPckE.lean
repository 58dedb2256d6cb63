/- Encode of package pack: what it returns. -/
import Derived.Test.YthagdpiocmcbmaaPckV
import Derived.Lib.SlBytesConst
namespace Go.Proofs.Ythagdpiocmcbmaa
open Wr
open Go.ChangeShapes Go.WideShapes Go.ChangeAt Go.RowKit
set_option linter.unusedVariables false
/-! ### Faults compared -/
theorem neF (a b c d e f : Int) (v : Bool) (h : decide (a = d ∧ b = e ∧ c = f) = v) : ∀ W, (binOp .neq 31 (.agg #[.int .i64 a, .int .i64 b, .int .i64 c]) (.agg #[.int .i64 d, .int .i64 e, .int .i64 f])).run Try.prog W = .ok (.bool (!v)) W := by
  intro W; subst h; simp [go_sem]; repeat' split
  all_goals simp_all
theorem eqF (a b c d e f : Int) (v : Bool) (h : decide (a = d ∧ b = e ∧ c = f) = v) : ∀ W, (binOp .eql 31 (.agg #[.int .i64 a, .int .i64 b, .int .i64 c]) (.agg #[.int .i64 d, .int .i64 e, .int .i64 f])).run Try.prog W = .ok (.bool v) W := by
  intro W; subst h; simp [go_sem]; repeat' split
  all_goals simp_all
/-- The bytes of a constant, as a row with its mark. -/
theorem row_mark (w : World) (zs : List Int) (hb : Byt zs) (hm : zs.length ≤ maxLen) (r : Nat × Nat) : Wr.Row (w.alloc (.cells (zs.map (Value.int .u8)).toArray 5 r)) (some ⟨w.heap.size, 0, none⟩) zs.length zs.length zs := by
  refine ⟨rfl, Nat.le_refl _, hm, hb, fun h => (by cases h), fun x hx i hi => ?_⟩
  cases hx
  rw [Addr.add_lit, Nat.zero_add]
  simp only [World.cell?, heap_alloc_new]
  simp [List.getD, hi]
theorem cv1 (w : World) (C : Array Value) (n c : Nat) : (convert 28 28 (.slice (some ⟨w.heap.size, 0, none⟩) n c)).run Try.prog (w.alloc (.cells C 5)) = .ok (.slice (some ⟨w.heap.size, 0, none⟩) n c) (w.alloc (.cells C 5 (C.size, C.size + 1))) :=
  Lib.run_convert_bytes_const (P := Try.prog) w 28 5 C n c Try.underlying28 Try.underlying5
theorem cv2 (w : World) (o : Obj) (C : Array Value) (n c : Nat) : (convert 28 28 (.slice (some ⟨w.heap.size + 1, 0, none⟩) n c)).run Try.prog ((w.alloc o).alloc (.cells C 5)) = .ok (.slice (some ⟨w.heap.size + 1, 0, none⟩) n c) ((w.alloc o).alloc (.cells C 5 (C.size, C.size + 1))) := by
  have := cv1 (w.alloc o) C n c
  simpa using this
theorem head_byt : Byt head4 := by intro z hz; simp only [head4, List.mem_cons, List.not_mem_nil, or_false] at hz; omega
theorem own_set3 {w : World} {base N : Nat} {v a b c : Value} {zs : List Int} {d : Array Value} {T : TypeId} (h : Wr.Own w base v zs) (hN : w.heap[N]? = some (.cells d T (0, 0))) (hT : 5 ≠ T) : Wr.Own (((w.setCell ⟨N, 0, none⟩ a).setCell ⟨N, 1, none⟩ b).setCell ⟨N, 2, none⟩ c) base v zs :=
  own_oth h fun g cs hg => by
    have hne := ne_ty hN hg hT
    rw [Below.heap_setCell _ _ _ _ hne, Below.heap_setCell _ _ _ _ hne, Below.heap_setCell _ _ _ _ hne]
    exact hg
set_option maxHeartbeats 2000000 in
theorem encode_bad (h w c lo hi ot : Int) (oa : Option Addr) (on oc : Nat) (O : Nat → Nat → Int) (Z B : Nat → List Int) (W : World) (hL : LRow W oa on oc O Z B) (x t : Int) (L : List (Int × Int × Int)) (wk : Int) (hg : gtR O h w c lo hi ot on = (x, t, L, wk)) (hx : x ≠ 0) :
    Calls Try.prog 9 #[.agg #[.int .i64 h, .int .i64 w, .int .i64 c, .int .i64 lo, .int .i64 hi, .slice oa on oc, .int .i64 ot]] W fun e w' => e = .returned (.tuple #[.slice none 0 0, .agg #[.int .i64 x, .int .i64 t, .int .i64 0]]) ∧ Below W.heap.size W w' := by
  have hC : Hid (∀ W, MRow W oa on oc O → _) := fun W hM => check_any h w c lo hi ot oa on oc O W hM
  rw [hg] at hC
  simp only at hC
  have hM : Hid (MRow W oa on oc O) := hL.m
  have n3 := neF x t 0 0 0 0 false (by simp [hx])
  clear hL hg hx
  go_enter Try.func9, Try.ntmps9
  go_wp2_with fail
  refine Calls.mono (hC.out _ (hM.out.below (St.start W).new.new.below)) ?_
  rintro e w1 ⟨rfl, hb⟩
  have s1 := ((St.start W).new.new).call hb
  simp only [World.size_alloc] at s1
  obtain ⟨c1, f1, z1, c2, f2, z2, -⟩ := s1.rules
  have hs1 : Hid (Below W.heap.size W w1) := s1.below
  clear hb hC s1
  go_wp2
  go_region_law (fail)
  all_goals
    go_wp2
    exact bodyPost_ret (v := .tuple #[.slice none 0 0, .agg #[.int .i64 x, .int .i64 t, .int .i64 0]]) (by simp [results, Try.results9, go_sem, *]) rfl ⟨rfl, (bt (set3b hs1.out (by omega)) (bal _ _)).drew⟩
set_option maxHeartbeats 2000000 in
set_option maxRecDepth 100000 in
theorem encode_ok (h w c lo hi ot : Int) (oa : Option Addr) (on oc : Nat) (O : Nat → Nat → Int) (Z B : Nat → List Int) (W : World) (hL : LRow W oa on oc O Z B) (t : Int) (L : List (Int × Int × Int)) (wk : Int) (hg : gtR O h w c lo hi ot on = (0, t, L, wk)) :
    Calls Try.prog 9 #[.agg #[.int .i64 h, .int .i64 w, .int .i64 c, .int .i64 lo, .int .i64 hi, .slice oa on oc, .int .i64 ot]] W fun e w' => ∃ v, e = .returned (.tuple #[v, .agg #[.int .i64 0, .int .i64 0, .int .i64 0]]) ∧ Wr.Own w' W.heap.size v (eAll (dMod h w c lo hi ot on O Z B)) ∧ v ≠ .slice none 0 0 ∧ Below W.heap.size W w' := by
  have hC : Hid (∀ W, MRow W oa on oc O → _) := fun W hM => check_any h w c lo hi ot oa on oc O W hM
  obtain ⟨-, rfl, -⟩ := gtR_st hg
  obtain ⟨-, hF, h64⟩ := mod_fits hg (lens_of hL)
  rw [hg] at hC
  simp only at hC
  have HL : Hid (LRow W oa on oc O Z B) := hL
  have HF : Hid (OFit on O Z B ∧ In64 [lo, hi]) := ⟨hF, h64⟩
  have n3 := neF 0 0 0 0 0 0 true (by simp)
  have cv := cv2
  clear hL hg hF h64
  go_enter Try.func9, Try.ntmps9
  go_wp2_with fail
  refine Calls.mono (hC.out _ (HL.out.m.below (St.start W).new.new.below)) ?_
  rintro e w1 ⟨rfl, hb⟩
  have s1 := ((St.start W).new (c := #[.int .i64 h, .int .i64 w, .int .i64 c, .int .i64 lo, .int .i64 hi, .slice oa on oc, .int .i64 ot]) (t := 26)).new (c := #[.int .i64 0, .int .i64 0, .int .i64 0]) (t := 31)
  have s2 := s1.call hb
  simp only [World.size_alloc] at s2
  obtain ⟨c1, f1, z1, c2, f2, z2, -⟩ := s2.rules
  have s3 := ((s2.new (c := #[.int .i64 0, .int .i64 0, .int .i64 0]) (t := 31)).skip (.cells #[.int .u8 83, .int .u8 87, .int .u8 77, .int .u8 49] 5 (4, 5))).new (c := #[.slice (some ⟨w1.heap.size + 1, 0, none⟩) 4 4]) (t := 54)
  simp only [World.size_alloc] at s3
  have S3 : Hid (St W _ _) := s3
  have hR := ((row_mark (w1.alloc (.cells #[.int .i64 0, .int .i64 0, .int .i64 0] 31)) head4 head_byt (by unfold maxLen; simp [head4]) (4, 5)).below (bal _ (.cells #[.slice (some ⟨w1.heap.size + 1, 0, none⟩) 4 4] 54)))
  simp only [World.size_alloc] at hR
  have hT : Hid (Wt _ (w1.heap.size + 1 + 1) W.heap.size head4) := ⟨_, s3.h1, .inr ⟨_, rfl, hR⟩⟩
  clear hb hC s1 s2 s3 hR
  have HM := S3.out.h4
  go_wp2_with (refine wpList_load_row rfl 26 (.tmp 1) rfl W.heap.size rfl 26 _ (0, 0) _ HM Try.underlying26 rfl (by kernel_rfl) ?_)
  refine (wmodel_any (w1.heap.size + 1 + 1) head4 h w c lo hi ot oa on oc O Z B W _ hT.out S3.out.below (by omega) HL.out HF.out.1 HF.out.2 (by simp [head4])).mono ?_
  rintro e w3 ⟨rfl, ⟨v, hv, own, nn⟩, K3⟩
  have hB : Hid (w3.heap[W.heap.size + 1]? = some (.cells #[.int .i64 0, .int .i64 0, .int .i64 0] 31 (0, 0))) := K3.2 _ _ _ (by omega) (by decide) S3.out.h3
  have hbel : Hid (Below W.heap.size W w3) := S3.out.below.trans K3.1
  obtain ⟨va, vn, vc, rfl⟩ := own_ltr own nn
  have hown : Hid (Wr.Own w3 W.heap.size (.slice (some va) vn vc) (eAll (dMod h w c lo hi ot on O Z B))) := own
  clear K3 own c1 f1 z1 c2 f2 hT S3
  obtain ⟨c1, f1, z1⟩ := cells_at hB.out
  obtain ⟨c2, f2, z2⟩ := cells_at hv
  clear hv
  go_wp2
  exact bodyPost_ret (v := .tuple #[.slice (some va) vn vc, .agg #[.int .i64 0, .int .i64 0, .int .i64 0]]) (by simp [results, Try.results9, go_sem, *]) rfl ⟨_, rfl, own_set3 hown.out hB.out (by decide), by simp, set3b hbel.out (by omega)⟩
end Go.Proofs.Ythagdpiocmcbmaa
