/- The answers that the document fixes; a nil buffer; the walk of BufNil. -/
import Derived.Test.YtedbcnkgembhbaaBufD
namespace Go.Proofs.Ytedbcnkgembhbaa
open Go.ChangeShapes Go.WideShapes Go.ChangeAt Go.RowKit
theorem zs4 : List.replicate ((1 : Int) * 2 * 2).toNat (0 : Int) = [0, 0, 0, 0] := by decide
set_option maxHeartbeats 2000000 in
theorem fixed_is (w : World) : Calls Try.prog 7 #[] w fun e w' => e = .returned (.bool true) ∧ Below w.heap.size w w' := by
  have hn := new_ok 1 2 2 w (by decide)
  rw [zs4] at hn
  go_enter Try.func7, Try.ntmps7
  go_wp2_with fail
  refine hn.mono ?_
  rintro e w1 ⟨B, b, rfl, hB, hb, f1, b1⟩
  clear hn
  have hlen := len_i8 _ _ _ _ _ _ _ f1
  rw [show ([0, 0, 0, 0] : List Int).length = 4 from rfl] at hlen
  go_wp2_with fail
  refine hlen.mono ?_
  rintro e w2 ⟨rfl, rfl⟩
  have hset := set_ok_i8 B b 1 2 2 [0, 0, 0, 0] 3 (-5) w2 f1 (by decide) (by decide)
  rw [show ([0, 0, 0, 0] : List Int).set 3 (-5) = [0, 0, 0, -5] from rfl] at hset
  clear hlen f1
  go_wp2_with fail
  refine hset.mono ?_
  rintro e w3 ⟨rfl, f3, k3⟩
  have b3 := k3.below b1 b1.size (by simpa using hb)
  clear hset k3 b1
  go_wp2_with fail
  refine (at_ok_i8 B b 1 2 2 [0, 0, 0, -5] 3 (-5) w3 f3 rfl).mono ?_
  rintro e w4 ⟨rfl, rfl⟩
  have he := ends_i8 B b 1 2 2 [0, 0, 0, -5] 0 w4 f3 rfl
  rw [show loF 0 [0, 0, 0, -5] = -5 from by decide, show hiF 0 [0, 0, 0, -5] = 0 from by decide] at he
  go_wp2_with fail
  refine he.mono ?_
  rintro e w5 ⟨rfl, q, rfl⟩
  have f5 := f3.below (dbel w4 q)
  have b5 := bt b3 (dbel w4 q)
  clear he f3 b3
  go_wp2_with fail
  refine (at_no_i8 B b 1 2 2 [0, 0, 0, -5] 4 _ f5 (.inr (by decide))).mono ?_
  rintro e w6 ⟨rfl, rfl⟩
  clear f5
  go_wp2
  go_ret
  exact ⟨rfl, b5⟩
theorem nilPlace (i : Int) (w : World) : Calls Try.prog 49 #[.pointer none, .int .i64 i] w fun e w' => e = .returned (.int .i64 1) ∧ w' = w := by
  go_enter Try.func49, Try.ntmps49
  go_wp2
  go_ret
  exact ⟨rfl, rfl⟩
theorem nilAt (i : Int) (w : World) : Calls Try.prog 23 #[.pointer none, .int .i64 i] w fun e w' => e = .returned (.tuple #[.int .i16 0, .int .i64 1]) ∧ w' = w := by
  go_enter Try.func23, Try.ntmps23
  go_wp2_with fail
  refine (nilPlace _ _).mono ?_
  rintro e w1 ⟨rfl, rfl⟩
  go_wp2
  go_ret2
  exact ⟨rfl, rfl⟩
theorem nilSet (i v : Int) (w : World) : Calls Try.prog 27 #[.pointer none, .int .i64 i, .int .i16 v] w fun e w' => e = .returned (.int .i64 1) ∧ w' = w := by
  go_enter Try.func27, Try.ntmps27
  go_wp2_with fail
  refine (nilPlace _ _).mono ?_
  rintro e w1 ⟨rfl, rfl⟩
  go_wp2
  go_ret
  exact ⟨rfl, rfl⟩
theorem nilView (i n : Int) (w : World) : Calls Try.prog 24 #[.pointer none, .int .i64 i, .int .i64 n] w fun e w' => e = .returned (.tuple #[.slice none 0 0, .int .i64 1]) ∧ w' = w := by
  go_enter Try.func24, Try.ntmps24
  go_wp2
  go_ret2
  exact ⟨rfl, rfl⟩
theorem nilLen (w : World) : Calls Try.prog 28 #[.pointer none] w fun e w' => e = .returned (.int .i64 0) ∧ w' = w := by
  go_enter Try.func28, Try.ntmps28
  go_wp2
  go_ret
  exact ⟨rfl, rfl⟩
theorem nilEnds (w : World) : Calls Try.prog 25 #[.pointer none] w fun e w' => e = .returned (.tuple #[.int .i16 0, .int .i16 0, .bool false]) ∧ w' = w := by
  go_enter Try.func25, Try.ntmps25
  go_wp2_with fail
  refine (nilLen _).mono ?_
  rintro e w1 ⟨rfl, rfl⟩
  go_wp2
  go_ret3
  exact ⟨rfl, rfl⟩
theorem nilConvert (w : World) : Calls Try.prog 26 #[.pointer none] w fun e w' => e = .returned (.tuple #[.pointer none, .int .i64 1]) ∧ w' = w := by
  go_enter Try.func26, Try.ntmps26
  go_wp2
  go_ret2
  exact ⟨rfl, rfl⟩
theorem nilList (w : World) : Calls Try.prog 30 #[.pointer none] w fun e w' => e = .returned (.slice none 0 0) ∧ w' = w := by
  go_enter Try.func30, Try.ntmps30
  go_wp2
  go_ret
  exact ⟨rfl, rfl⟩
theorem nilShape (w : World) : Calls Try.prog 29 #[.pointer none] w fun e w' => e = .returned (.agg #[.int .i64 0, .int .i64 0, .int .i64 0]) ∧ Below w.heap.size w w' := by
  go_enter Try.func29, Try.ntmps29
  go_wp2
  exact bodyPost_ret (v := .agg #[.int .i64 0, .int .i64 0, .int .i64 0]) (by simp [results, Try.results29, go_sem]) rfl ⟨rfl, (St.start w).new.below⟩
set_option maxHeartbeats 2000000 in
theorem bufNil_walk (a0 a1 a2 : Int) (w : World) (_w0 : (Lit.int .i64 a0).wf = true) (_w1 : (Lit.int .i64 a1).wf = true) (_w2 : (Lit.int .i16 a2).wf = true) :
    Calls Try.prog 6 #[.int .i64 a0, .int .i64 a1, .int .i16 a2] w fun e w' => e = .returned (.bool true) ∧ Below w.heap.size w w' := by
  clear _w0 _w1 _w2
  go_enter Try.func6, Try.ntmps6
  go_wp2_with fail
  refine (nilAt _ _).mono ?_
  rintro e w' ⟨rfl, rfl⟩
  go_wp2_with fail
  refine (nilView _ _ _).mono ?_
  rintro e w' ⟨rfl, rfl⟩
  go_wp2_with fail
  refine (nilEnds _).mono ?_
  rintro e w' ⟨rfl, rfl⟩
  go_wp2_with fail
  refine (nilConvert _).mono ?_
  rintro e w' ⟨rfl, rfl⟩
  go_wp2_with fail
  refine (fixed_is _).mono ?_
  rintro e w1 ⟨rfl, b1⟩
  go_wp2_with fail
  refine (nilSet _ _ _).mono ?_
  rintro e w' ⟨rfl, rfl⟩
  go_wp2_with fail
  refine (nilLen _).mono ?_
  rintro e w' ⟨rfl, rfl⟩
  go_wp2_with fail
  refine (nilShape _).mono ?_
  rintro e w2 ⟨rfl, b2⟩
  have b3 := bt b1 b2
  clear b1 b2
  go_wp2_with fail
  refine (nilList _).mono ?_
  rintro e w' ⟨rfl, rfl⟩
  go_wp2
  go_ret
  exact ⟨rfl, b3⟩
end Go.Proofs.Ytedbcnkgembhbaa
