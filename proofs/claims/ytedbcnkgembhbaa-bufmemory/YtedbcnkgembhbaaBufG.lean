/- Has a buffer just these numbers and that shape. -/
import Derived.Test.YtedbcnkgembhbaaBufF
namespace Go.Proofs.Ytedbcnkgembhbaa
open Go.ChangeShapes Go.WideShapes Go.ChangeAt Go.RowKit
set_option maxHeartbeats 2000000 in
theorem is_i8 (B b : Nat) (h u c : Int) (zs : List Int) (a : Option Addr) (n cap : Nat) (w : World) (f : Bf .i8 31 81 w B b h u c zs) (r : IRow .i64 w a n cap zs) (hs : n ≤ 1048576) :
    Calls Try.prog 14 #[.pointer (some ⟨B, 0, none⟩), .agg #[.int .i64 h, .int .i64 u, .int .i64 c, .slice a n cap]] w fun e w' => e = .returned (.bool true) ∧ Below w.heap.size w w' := by
  have hl : Hid (zs.length = n) := r.1
  have hD : St w (w.alloc (.cells #[.int .i64 h, .int .i64 u, .int .i64 c, .slice a n cap] 36)).drew [(w.heap.size, #[.int .i64 h, .int .i64 u, .int .i64 c, .slice a n cap], 36)] := (St.start w).new.drew
  have hf : Hid (∀ w', Below w.heap.size w w' → Bf .i8 31 81 w' B b h u c zs ∧ IRow .i64 w' a n cap zs) := fun w' q => ⟨f.below q, r.below q⟩
  clear f r
  go_enter Try.func14, Try.ntmps14
  go_wp2
  go_region_held3 (fun w' => (∀ i, w'.cell? ⟨w.heap.size, i, none⟩ = #[Value.int .i64 h, .int .i64 u, .int .i64 c, .slice a n cap][i]?) ∧ St w w' [(w.heap.size, #[.int .i64 h, .int .i64 u, .int .i64 c, .slice a n cap], 36)])
    (exact ⟨hD.rules.1, hD⟩)
    (first
      | (go_at_call 31; refine (len_i8 _ _ _ _ _ _ _ (hf.out _ hD.below).1).mono ?_; rw [hl.out]; rintro e w2 ⟨rfl, rfl⟩)
      | (go_at_call 38; refine (shape_i8 _ _ _ _ _ _ _ (hf.out _ hD.below).1).mono ?_; rintro e w2 ⟨rfl, b2⟩; replace hD := hD.call b2; clear b2)
      | (go_at_call 21; refine (list_i8 _ _ _ _ _ _ _ (hf.out _ hD.below).1 (by have := hl.out; omega)).mono ?_; rw [hl.out]; rintro e w2 ⟨g, rfl, own2, b2⟩; replace hD := hD.call b2; clear b2)
      | (go_at_call 13; refine (wide_i8 _ _ _ _ _ own2.facts.2.2.2.2.2.1 (by omega)).mono ?_; rintro e w3 ⟨v3, rfl, own3, b3⟩; replace hD := hD.call b3; clear b3; obtain ⟨a3, cap3, rfl, row3, -⟩ := own3.row; clear own2 own3)
      | (go_at_call 20; refine (same_yes row3 (hf.out _ hD.below).2).mono ?_; rintro e w4 ⟨rfl, b4⟩; replace hD := hD.call b4; clear b4))
  all_goals
    go_wp2
    go_ret
    exact ⟨rfl, hD.below⟩
set_option maxHeartbeats 2000000 in
theorem is_i16 (B b : Nat) (h u c : Int) (zs : List Int) (a : Option Addr) (n cap : Nat) (w : World) (f : Bf .i16 51 95 w B b h u c zs) (r : IRow .i64 w a n cap zs) (hs : n ≤ 1048576) :
    Calls Try.prog 18 #[.pointer (some ⟨B, 0, none⟩), .agg #[.int .i64 h, .int .i64 u, .int .i64 c, .slice a n cap]] w fun e w' => e = .returned (.bool true) ∧ Below w.heap.size w w' := by
  have hl : Hid (zs.length = n) := r.1
  have hD : St w (w.alloc (.cells #[.int .i64 h, .int .i64 u, .int .i64 c, .slice a n cap] 36)).drew [(w.heap.size, #[.int .i64 h, .int .i64 u, .int .i64 c, .slice a n cap], 36)] := (St.start w).new.drew
  have hf : Hid (∀ w', Below w.heap.size w w' → Bf .i16 51 95 w' B b h u c zs ∧ IRow .i64 w' a n cap zs) := fun w' q => ⟨f.below q, r.below q⟩
  clear f r
  go_enter Try.func18, Try.ntmps18
  go_wp2
  go_region_held3 (fun w' => (∀ i, w'.cell? ⟨w.heap.size, i, none⟩ = #[Value.int .i64 h, .int .i64 u, .int .i64 c, .slice a n cap][i]?) ∧ St w w' [(w.heap.size, #[.int .i64 h, .int .i64 u, .int .i64 c, .slice a n cap], 36)])
    (exact ⟨hD.rules.1, hD⟩)
    (first
      | (go_at_call 28; refine (len_i16 _ _ _ _ _ _ _ (hf.out _ hD.below).1).mono ?_; rw [hl.out]; rintro e w2 ⟨rfl, rfl⟩)
      | (go_at_call 29; refine (shape_i16 _ _ _ _ _ _ _ (hf.out _ hD.below).1).mono ?_; rintro e w2 ⟨rfl, b2⟩; replace hD := hD.call b2; clear b2)
      | (go_at_call 30; refine (list_i16 _ _ _ _ _ _ _ (hf.out _ hD.below).1 (by have := hl.out; omega)).mono ?_; rw [hl.out]; rintro e w2 ⟨g, rfl, own2, b2⟩; replace hD := hD.call b2; clear b2)
      | (go_at_call 17; refine (wide_i16 _ _ _ _ _ own2.facts.2.2.2.2.2.1 (by omega)).mono ?_; rintro e w3 ⟨v3, rfl, own3, b3⟩; replace hD := hD.call b3; clear b3; obtain ⟨a3, cap3, rfl, row3, -⟩ := own3.row; clear own2 own3)
      | (go_at_call 20; refine (same_yes row3 (hf.out _ hD.below).2).mono ?_; rintro e w4 ⟨rfl, b4⟩; replace hD := hD.call b4; clear b4))
  all_goals
    go_wp2
    go_ret
    exact ⟨rfl, hD.below⟩
set_option maxHeartbeats 2000000 in
theorem is_i32 (B b : Nat) (h u c : Int) (zs : List Int) (a : Option Addr) (n cap : Nat) (w : World) (f : Bf .i32 21 105 w B b h u c zs) (r : IRow .i64 w a n cap zs) (hs : n ≤ 1048576) :
    Calls Try.prog 44 #[.pointer (some ⟨B, 0, none⟩), .agg #[.int .i64 h, .int .i64 u, .int .i64 c, .slice a n cap]] w fun e w' => e = .returned (.bool true) ∧ Below w.heap.size w w' := by
  have hl : Hid (zs.length = n) := r.1
  have hD : St w (w.alloc (.cells #[.int .i64 h, .int .i64 u, .int .i64 c, .slice a n cap] 36)).drew [(w.heap.size, #[.int .i64 h, .int .i64 u, .int .i64 c, .slice a n cap], 36)] := (St.start w).new.drew
  have hf : Hid (∀ w', Below w.heap.size w w' → Bf .i32 21 105 w' B b h u c zs ∧ IRow .i64 w' a n cap zs) := fun w' q => ⟨f.below q, r.below q⟩
  clear f r
  go_enter Try.func44, Try.ntmps44
  go_wp2
  go_region_held3 (fun w' => (∀ i, w'.cell? ⟨w.heap.size, i, none⟩ = #[Value.int .i64 h, .int .i64 u, .int .i64 c, .slice a n cap][i]?) ∧ St w w' [(w.heap.size, #[.int .i64 h, .int .i64 u, .int .i64 c, .slice a n cap], 36)])
    (exact ⟨hD.rules.1, hD⟩)
    (first
      | (go_at_call 52; refine (len_i32 _ _ _ _ _ _ _ (hf.out _ hD.below).1).mono ?_; rw [hl.out]; rintro e w2 ⟨rfl, rfl⟩)
      | (go_at_call 53; refine (shape_i32 _ _ _ _ _ _ _ (hf.out _ hD.below).1).mono ?_; rintro e w2 ⟨rfl, b2⟩; replace hD := hD.call b2; clear b2)
      | (go_at_call 55; refine (list_i32 _ _ _ _ _ _ _ (hf.out _ hD.below).1 (by have := hl.out; omega)).mono ?_; rw [hl.out]; rintro e w2 ⟨g, rfl, own2, b2⟩; replace hD := hD.call b2; clear b2)
      | (go_at_call 54; refine (wide_i32 _ _ _ _ _ own2.facts.2.2.2.2.2.1 (by omega)).mono ?_; rintro e w3 ⟨v3, rfl, own3, b3⟩; replace hD := hD.call b3; clear b3; obtain ⟨a3, cap3, rfl, row3, -⟩ := own3.row; clear own2 own3)
      | (go_at_call 20; refine (same_yes row3 (hf.out _ hD.below).2).mono ?_; rintro e w4 ⟨rfl, b4⟩; replace hD := hD.call b4; clear b4))
  all_goals
    go_wp2
    go_ret
    exact ⟨rfl, hD.below⟩
set_option maxHeartbeats 2000000 in
theorem is_i64 (B b : Nat) (h u c : Int) (zs : List Int) (a : Option Addr) (n cap : Nat) (w : World) (f : Bf .i64 2 109 w B b h u c zs) (r : IRow .i64 w a n cap zs) (hs : n ≤ 1048576) :
    Calls Try.prog 47 #[.pointer (some ⟨B, 0, none⟩), .agg #[.int .i64 h, .int .i64 u, .int .i64 c, .slice a n cap]] w fun e w' => e = .returned (.bool true) ∧ Below w.heap.size w w' := by
  have hl : Hid (zs.length = n) := r.1
  have hD : St w (w.alloc (.cells #[.int .i64 h, .int .i64 u, .int .i64 c, .slice a n cap] 36)).drew [(w.heap.size, #[.int .i64 h, .int .i64 u, .int .i64 c, .slice a n cap], 36)] := (St.start w).new.drew
  have hf : Hid (∀ w', Below w.heap.size w w' → Bf .i64 2 109 w' B b h u c zs ∧ IRow .i64 w' a n cap zs) := fun w' q => ⟨f.below q, r.below q⟩
  clear f r
  go_enter Try.func47, Try.ntmps47
  go_wp2
  go_region_held3 (fun w' => (∀ i, w'.cell? ⟨w.heap.size, i, none⟩ = #[Value.int .i64 h, .int .i64 u, .int .i64 c, .slice a n cap][i]?) ∧ St w w' [(w.heap.size, #[.int .i64 h, .int .i64 u, .int .i64 c, .slice a n cap], 36)])
    (exact ⟨hD.rules.1, hD⟩)
    (first
      | (go_at_call 56; refine (len_i64 _ _ _ _ _ _ _ (hf.out _ hD.below).1).mono ?_; rw [hl.out]; rintro e w2 ⟨rfl, rfl⟩)
      | (go_at_call 57; refine (shape_i64 _ _ _ _ _ _ _ (hf.out _ hD.below).1).mono ?_; rintro e w2 ⟨rfl, b2⟩; replace hD := hD.call b2; clear b2)
      | (go_at_call 59; refine (list_i64 _ _ _ _ _ _ _ (hf.out _ hD.below).1 (by have := hl.out; omega)).mono ?_; rw [hl.out]; rintro e w2 ⟨g, rfl, own2, b2⟩; replace hD := hD.call b2; clear b2)
      | (go_at_call 58; refine (wide_i64 _ _ _ _ _ own2.facts.2.2.2.2.2.1 (by omega)).mono ?_; rintro e w3 ⟨v3, rfl, own3, b3⟩; replace hD := hD.call b3; clear b3; obtain ⟨a3, cap3, rfl, row3, -⟩ := own3.row; clear own2 own3)
      | (go_at_call 20; refine (same_yes row3 (hf.out _ hD.below).2).mono ?_; rintro e w4 ⟨rfl, b4⟩; replace hD := hD.call b4; clear b4))
  all_goals
    go_wp2
    go_ret
    exact ⟨rfl, hD.below⟩
end Go.Proofs.Ytedbcnkgembhbaa
