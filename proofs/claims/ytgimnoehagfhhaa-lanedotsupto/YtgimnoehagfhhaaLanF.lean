/- The statements' fixed answers; walks of LaneWords and LaneSums. -/
import Derived.Test.YtgimnoehagfhhaaLanE
namespace Go.Proofs.Ytgimnoehagfhhaa
open Go.ChangeShapes Go.WideShapes Go.ChangeAt Go.RowKit
set_option linter.unusedVariables false
theorem irow_new (k : IntKind) (T : TypeId) (w : World) (zs : List Int) (hw : Wf k zs) (hm : zs.length ≤ maxLen) : IRow k (w.alloc (.cells (zs.map (Value.int k)).toArray T)) (some ⟨w.heap.size, 0, none⟩) zs.length zs.length zs :=
  (own_lit k T w w.heap.size zs hw hm (Nat.le_refl _)).facts.2.2.2.2.2.1
theorem eq9 (a1 a2 a3 a4 a5 a6 a7 a8 a9 : Int) : ∀ W, (binOp .eql 48 (.agg #[.int .i64 a1, .int .i64 a2, .int .i64 a3, .int .i64 a4, .int .i64 a5, .int .i64 a6, .int .i64 a7, .int .i64 a8, .int .i64 a9]) (.agg #[.int .i64 a1, .int .i64 a2, .int .i64 a3, .int .i64 a4, .int .i64 a5, .int .i64 a6, .int .i64 a7, .int .i64 a8, .int .i64 a9])).run Try.prog W = .ok (.bool true) W := by
  intro W; simp [go_sem]
theorem fx_1 : wrapN 32768 (30000 + 10000) = -25536 ∧ fitsN 32768 (30000 + 10000) = false ∧ wrapN 32768 (-128 * -128) = 16384 ∧ fitsN 32768 (-128 * -128) = true := by decide
theorem fx_2 : suL 32768 0 0 [30000, 10000, -10000] = (30000, 2) := by decide
theorem fx_4 : rfE (2 : Nat) (2 : Nat) 16 2 = 0 := by decide
theorem fx_3 : dtR 16 2 1 (pz [3, -2] [10, 5]) = (⟨2, 0, 2, 20, 30⟩, ⟨0, 0, 1, 21, 21⟩, 21) := by kernel_rfl
set_option maxHeartbeats 1000000 in
theorem fixed_any (w : World) : Calls Try.prog 15 #[] w fun e w' => e = .returned (.bool true) ∧ Below w.heap.size w w' := by
  have HI1 : Hid (∀ w : World, IRow .i16 (w.alloc (.cells #[.int .i16 30000, .int .i16 10000, .int .i16 (-10000)] 22)) (some ⟨w.heap.size, 0, none⟩) 3 3 [30000, 10000, -10000]) := fun w => irow_new .i16 22 w [30000, 10000, -10000] (fun z hz => mk_i16 (by simp at hz; omega)) (by decide)
  have HI2 : Hid (∀ w : World, IRow .i16 (w.alloc (.cells #[.int .i16 3, .int .i16 (-2)] 22)) (some ⟨w.heap.size, 0, none⟩) 2 2 [3, -2]) := fun w => irow_new .i16 22 w [3, -2] (fun z hz => mk_i16 (by simp at hz; omega)) (by decide)
  have HI3 : Hid (∀ w : World, IRow .i8 (w.alloc (.cells #[.int .i8 10, .int .i8 5] 46)) (some ⟨w.heap.size, 0, none⟩) 2 2 [10, 5]) := fun w => irow_new .i8 46 w [10, 5] (fun z hz => mk_i8 (by simp at hz; omega)) (by decide)
  go_enter Try.func15, Try.ntmps15
  go_wp2_with fail
  refine (ladd_i16 _ _ _ (by omega) (by omega)).mono ?_
  rintro e w' ⟨rfl, rfl⟩
  rw [fx_1.1, fx_1.2.1]
  go_wp2_with fail
  refine (lmul_i16 _ _ _ (by omega) (by omega)).mono ?_
  rintro e w' ⟨rfl, rfl⟩
  rw [fx_1.2.2.1, fx_1.2.2.2]
  go_wp2_with fail
  refine (lsum_i16 _ _ _ _ _ (HI1.out _)).mono ?_
  rintro e w' ⟨rfl, rfl⟩
  rw [fx_2]
  obtain ⟨w, rfl⟩ : ∃ w, w = w' := ⟨_, rfl⟩
  have b0 := bal w (.cells #[.int .i16 30000, .int .i16 10000, .int .i16 (-10000)] 22)
  obtain ⟨w1, hw1⟩ : ∃ w1, (w.alloc (.cells #[.int .i16 30000, .int .i16 10000, .int .i16 (-10000)] 22)) = w1 := ⟨_, rfl⟩
  rw [hw1] at b0 ⊢
  have B0 : Hid (Below w.heap.size w w1) := b0
  clear hw1 b0
  go_wp2_with fail
  have hd := ldot_ok _ _ 2 2 2 16 2 1 [3, -2] [10, 5] _ (by omega) ((HI2.out w1).below (bal _ _)) (HI3.out _) fx_4 (by omega) _ fx_3
  simp only [World.size_alloc] at hd
  refine hd.mono ?_
  rintro e w2 ⟨rfl, hb2⟩
  have B2 : Hid (Below w.heap.size w w2) := bt (bt (bt B0.out (bal _ _)) (bal _ _)) (by simp only [World.size_alloc]; exact hb2)
  clear hb2 B0
  simp only [trk, Int.reduceAdd]
  have e9 := eq9 2 2 0 1 0 20 30 21 21
  have B3 : Hid (∀ o, Below w.heap.size w (w2.alloc o)) := fun o => bt B2.out (bal _ o)
  go_wp2
  go_ret
  exact ⟨rfl, B3.out _⟩
end Go.Proofs.Ytgimnoehagfhhaa
