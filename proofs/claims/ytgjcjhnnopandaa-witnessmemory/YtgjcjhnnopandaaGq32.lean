/- The walk of WitnessMemory, over what its calls return. -/
import Derived.Test.YtgjcjhnnopandaaGq31
namespace Go.Proofs.Ytgjcjhnnopandaa
open Go.ChangeShapes Go.WideShapes Go.ChangeAt Go.RowKit
set_option linter.unusedVariables false
set_option maxHeartbeats 8000000 in
set_option maxRecDepth 100000 in
theorem wmem_e (h w c lo hi : Int) (oa : Option Addr) (on oc : Nat) (ot op ch slo shi dp : Int) (W : World) (E : Int) (hE : E ≠ 0)
    (HLo : Hid (∀ W', Below W.heap.size W W' → Calls Try.prog 7 #[.agg #[.int .i64 h, .int .i64 w, .int .i64 c, .int .i64 lo, .int .i64 hi, .slice oa on oc, .int .i64 ot], .int .i64 op, .int .i64 ch, .agg #[.int .i64 slo, .int .i64 shi]] W' fun e w' => e = .returned (.tuple #[.agg #[.int .i64 0, .slice none 0 0], .int .i64 E]) ∧ Below W'.heap.size W' w'))
    (HHi : Hid (∀ W', Below W.heap.size W W' → Calls Try.prog 8 #[.agg #[.int .i64 h, .int .i64 w, .int .i64 c, .int .i64 lo, .int .i64 hi, .slice oa on oc, .int .i64 ot], .int .i64 op, .int .i64 ch, .agg #[.int .i64 slo, .int .i64 shi]] W' fun e w' => e = .returned (.tuple #[.agg #[.int .i64 0, .slice none 0 0], .int .i64 E]) ∧ Below W'.heap.size W' w'))
    (HBr : Hid (∀ W', Below W.heap.size W W' → Calls Try.prog 14 #[.agg #[.int .i64 h, .int .i64 w, .int .i64 c, .int .i64 lo, .int .i64 hi, .slice oa on oc, .int .i64 ot], .int .i64 op, .int .i64 ch, .agg #[.int .i64 slo, .int .i64 shi], .int .i64 dp] W' fun e w' => e = .returned (.tuple #[.agg #[.int .i64 0, .int .i64 0, .int .i64 0, .slice none 0 0], .bool false, .int .i64 E]) ∧ Below W'.heap.size W' w')) :
    Calls Try.prog 5 #[.agg #[.int .i64 h, .int .i64 w, .int .i64 c, .int .i64 lo, .int .i64 hi, .slice oa on oc, .int .i64 ot, .int .i64 op, .int .i64 ch, .int .i64 slo, .int .i64 shi, .int .i64 dp]] W fun e w' => e = .returned (.bool true) ∧ Below W.heap.size W w' := by
  have s0 := (St.start W).new (c := #[.int .i64 h, .int .i64 w, .int .i64 c, .int .i64 lo, .int .i64 hi, .slice oa on oc, .int .i64 ot, .int .i64 op, .int .i64 ch, .int .i64 slo, .int .i64 shi, .int .i64 dp]) (t := 30)
  have hE2 : (E == 0) = false := by simp [hE]
  go_enter Try.func5, Try.ntmps5
  go_wp2_with fail
  refine (fixed23_any _).mono ?_
  rintro e w1 ⟨rfl, hb⟩
  have S1 : Hid (St W w1 _) := s0.call hb
  clear hb s0
  obtain ⟨c1, f1, z1, -⟩ := S1.out.rules
  go_wp2_with fail
  refine Calls.mono (HLo.out _ S1.out.below) ?_
  rintro e w2 ⟨rfl, hb⟩
  have S2 : Hid (St W (w2.alloc (.cells #[.int .i64 0, .slice none 0 0] 34)) _) := (S1.out.call hb).new (c := #[.int .i64 0, .slice none 0 0]) (t := 34)
  clear hb S1 c1 f1 z1
  go_upto_region 4 with fail
  obtain ⟨w3, hw3⟩ : ∃ w3, w2.alloc (.cells #[.int .i64 0, .slice none 0 0] 34) = w3 := ⟨_, rfl⟩
  obtain ⟨B1, hB1⟩ : ∃ B, w2.heap.size = B := ⟨_, rfl⟩
  rw [hw3, hB1] at S2
  rw [hw3, hB1]
  clear hw3 hB1
  obtain ⟨-, -, -, c1, f1, z1, -⟩ := S2.out.rules
  go_wp2_with fail
  refine Calls.mono (HHi.out _ S2.out.below) ?_
  rintro e w4 ⟨rfl, hb⟩
  have S4 : Hid (St W (w4.alloc (.cells #[.int .i64 0, .slice none 0 0] 34)) _) := (S2.out.call hb).skip (.cells #[.int .i64 0, .slice none 0 0] 34)
  clear hb S2 HHi c1 f1 z1
  go_upto_region 5 with fail
  obtain ⟨w5, hw5⟩ : ∃ w5, w4.alloc (.cells #[.int .i64 0, .slice none 0 0] 34) = w5 := ⟨_, rfl⟩
  obtain ⟨B2, hB2⟩ : ∃ B, w4.heap.size = B := ⟨_, rfl⟩
  rw [hw5] at S4 ⊢
  rw [hB2]
  clear hw5 hB2
  obtain ⟨-, -, -, c1, f1, z1, -⟩ := S4.out.rules
  go_wp2_with fail
  refine Calls.mono (HLo.out _ S4.out.below) ?_
  rintro e w6 ⟨rfl, hb⟩
  have S6 : Hid (St W (w6.alloc (.cells #[.int .i64 0, .slice none 0 0] 34)) _) := (S4.out.call hb).skip (.cells #[.int .i64 0, .slice none 0 0] 34)
  clear hb S4 HLo c1 f1 z1
  go_upto_region 6 with fail
  obtain ⟨w7, hw7⟩ : ∃ w7, w6.alloc (.cells #[.int .i64 0, .slice none 0 0] 34) = w7 := ⟨_, rfl⟩
  obtain ⟨B3, hB3⟩ : ∃ B, w6.heap.size = B := ⟨_, rfl⟩
  rw [hw7] at S6 ⊢
  rw [hB3]
  clear hw7 hB3
  obtain ⟨-, -, -, c1, f1, z1, -⟩ := S6.out.rules
  go_wp2_with fail
  refine Calls.mono (HBr.out _ S6.out.below) ?_
  rintro e w8 ⟨rfl, hb⟩
  have S8 : Hid (St W (w8.alloc (.cells #[.int .i64 0, .int .i64 0, .int .i64 0, .slice none 0 0] 48)) _) := (S6.out.call hb).skip (.cells #[.int .i64 0, .int .i64 0, .int .i64 0, .slice none 0 0] 48)
  clear hb S6 HBr c1 f1 z1
  go_upto_region 7 with fail
  obtain ⟨w9, hw9⟩ : ∃ w9, w8.alloc (.cells #[.int .i64 0, .int .i64 0, .int .i64 0, .slice none 0 0] 48) = w9 := ⟨_, rfl⟩
  rw [hw9] at S8 ⊢
  clear hw9
  obtain ⟨c1, f1, z1, -⟩ := S8.out.rules
  go_wp2
  go_ret
  exact ⟨rfl, S8.out.below⟩
set_option maxHeartbeats 8000000 in
set_option maxRecDepth 100000 in
theorem wmem_w (h w c lo hi : Int) (oa : Option Addr) (on oc : Nat) (ot op ch slo shi dp : Int) (W : World) (M : Nat) (hM : M ≤ 16384)
    (HLo : Hid (∀ W', Below W.heap.size W W' → Calls Try.prog 7 #[.agg #[.int .i64 h, .int .i64 w, .int .i64 c, .int .i64 lo, .int .i64 hi, .slice oa on oc, .int .i64 ot], .int .i64 op, .int .i64 ch, .agg #[.int .i64 slo, .int .i64 shi]] W' fun e w' => (∃ (r : Nat) (A : List Int) (v' : Value), A.length = M ∧ e = .returned (.tuple #[.agg #[.int .i64 (r : Int), v'], .int .i64 0]) ∧ Own .i8 51 w' W'.heap.size v' A) ∧ Below W'.heap.size W' w'))
    (HHi : Hid (∀ W', Below W.heap.size W W' → Calls Try.prog 8 #[.agg #[.int .i64 h, .int .i64 w, .int .i64 c, .int .i64 lo, .int .i64 hi, .slice oa on oc, .int .i64 ot], .int .i64 op, .int .i64 ch, .agg #[.int .i64 slo, .int .i64 shi]] W' fun e w' => (∃ (r : Nat) (A : List Int) (v' : Value), A.length = M ∧ e = .returned (.tuple #[.agg #[.int .i64 (r : Int), v'], .int .i64 0]) ∧ Own .i8 51 w' W'.heap.size v' A) ∧ Below W'.heap.size W' w'))
    (HBr : Hid (∀ W', Below W.heap.size W W' → Calls Try.prog 14 #[.agg #[.int .i64 h, .int .i64 w, .int .i64 c, .int .i64 lo, .int .i64 hi, .slice oa on oc, .int .i64 ot], .int .i64 op, .int .i64 ch, .agg #[.int .i64 slo, .int .i64 shi], .int .i64 dp] W' fun e w' => (∃ (r f g : Nat) (A : List Int) (vl : Value) (ok : Bool) (e2 : Int), A.length ≤ M ∧ e = .returned (.tuple #[.agg #[.int .i64 (r : Int), .int .i64 (f : Int), .int .i64 (g : Int), vl], .bool ok, .int .i64 e2]) ∧ Own .i8 51 w' W'.heap.size vl A) ∧ Below W'.heap.size W' w')) :
    Calls Try.prog 5 #[.agg #[.int .i64 h, .int .i64 w, .int .i64 c, .int .i64 lo, .int .i64 hi, .slice oa on oc, .int .i64 ot, .int .i64 op, .int .i64 ch, .int .i64 slo, .int .i64 shi, .int .i64 dp]] W fun e w' => e = .returned (.bool true) ∧ Below W.heap.size W w' := by
  have s0 := (St.start W).new (c := #[.int .i64 h, .int .i64 w, .int .i64 c, .int .i64 lo, .int .i64 hi, .slice oa on oc, .int .i64 ot, .int .i64 op, .int .i64 ch, .int .i64 slo, .int .i64 shi, .int .i64 dp]) (t := 30)
  go_enter Try.func5, Try.ntmps5
  go_wp2_with fail
  refine (fixed23_any _).mono ?_
  rintro e w1 ⟨rfl, hb⟩
  have S1 : Hid (St W w1 _) := s0.call hb
  clear hb s0
  obtain ⟨c1, f1, z1, -⟩ := S1.out.rules
  go_wp2_with fail
  refine Calls.mono (HLo.out _ S1.out.below) ?_
  rintro e w2 ⟨⟨r1, A1, v', hl1, rfl, hO⟩, hb⟩
  obtain ⟨a1, d1, rfl, hI, hg1⟩ := hO.row
  rw [hl1] at hI hO ⊢
  have S2 : Hid (St W (w2.alloc (.cells #[.int .i64 (r1 : Int), .slice a1 M d1] 34)) _) := (S1.out.call hb).new (c := #[.int .i64 (r1 : Int), .slice a1 M d1]) (t := 34)
  have HO2 : Hid (Own .i8 51 (w2.alloc (.cells #[.int .i64 (r1 : Int), .slice a1 M d1] 34)) w1.heap.size (.slice a1 M d1) A1) := hO.alloc _
  have HL1 : Hid (A1.length = M) := hl1
  have hz1 := lt_of_heap S1.out.h1
  have hz2 := (S1.out.call hb).size
  have hz2' := hb.size
  have hb1 : ∀ x, a1 = some x → x.block < w2.heap.size := fun x hx => (hg1 x hx).2
  have hm1 := hI.2.1
  clear hb S1 c1 f1 z1 hO hI hl1 hg1
  go_upto_region 4 with fail
  obtain ⟨w3, hw3⟩ : ∃ w3, w2.alloc (.cells #[.int .i64 (r1 : Int), .slice a1 M d1] 34) = w3 := ⟨_, rfl⟩
  obtain ⟨B1, hB1⟩ : ∃ B, w2.heap.size = B := ⟨_, rfl⟩
  have hz3 : w3.heap.size = B1 + 1 := by rw [← hw3, ← hB1]; simp
  rw [hw3, hB1] at S2
  rw [hw3] at HO2
  rw [hw3, hB1]
  rw [hB1] at hz2 hz2' hb1
  clear hw3 hB1
  obtain ⟨-, -, -, c1, f1, z1, -⟩ := S2.out.rules
  go_wp2_with fail
  refine Calls.mono (HHi.out _ S2.out.below) ?_
  rintro e w4 ⟨⟨r2, A2, v', hl2, rfl, hO⟩, hb⟩
  obtain ⟨a2, d2, rfl, -, -⟩ := hO.row
  rw [hl2] at hO ⊢
  have S4 : Hid (St W (w4.alloc (.cells #[.int .i64 (r2 : Int), .slice a2 M d2] 34)) _) := (S2.out.call hb).new (c := #[.int .i64 (r2 : Int), .slice a2 M d2]) (t := 34)
  have HO4 : Hid (Own .i8 51 (w4.alloc (.cells #[.int .i64 (r2 : Int), .slice a2 M d2] 34)) w1.heap.size (.slice a1 M d1) A1) := (HO2.out.below hb).alloc _
  have HP4 : Hid (Own .i8 51 (w4.alloc (.cells #[.int .i64 (r2 : Int), .slice a2 M d2] 34)) (B1 + 1) (.slice a2 M d2) A2) := (hO.alloc _).base (by omega)
  have hz4 := hb.size
  clear hb S2 c1 f1 z1 hO HO2 HHi
  go_upto_region 5 with fail
  obtain ⟨w5, hw5⟩ : ∃ w5, w4.alloc (.cells #[.int .i64 (r2 : Int), .slice a2 M d2] 34) = w5 := ⟨_, rfl⟩
  obtain ⟨B2, hB2⟩ : ∃ B, w4.heap.size = B := ⟨_, rfl⟩
  have hz5 : w5.heap.size = B2 + 1 := by rw [← hw5, ← hB2]; simp
  rw [hw5, hB2] at S4
  rw [hw5] at HO4 HP4
  rw [hw5, hB2]
  rw [hB2] at hz4
  clear hw5 hB2
  obtain ⟨-, -, -, -, -, -, c1, f1, z1, -⟩ := S4.out.rules
  go_wp2_with fail
  refine Calls.mono (HLo.out _ S4.out.below) ?_
  rintro e w6 ⟨⟨r3, A3, v', hl3, rfl, hO⟩, hb⟩
  obtain ⟨a3, d3, rfl, -, -⟩ := hO.row
  rw [hl3] at hO ⊢
  have S6 : Hid (St W (w6.alloc (.cells #[.int .i64 (r3 : Int), .slice a3 M d3] 34)) _) := (S4.out.call hb).new (c := #[.int .i64 (r3 : Int), .slice a3 M d3]) (t := 34)
  have HO6 : Hid (Own .i8 51 (w6.alloc (.cells #[.int .i64 (r3 : Int), .slice a3 M d3] 34)) w1.heap.size (.slice a1 M d1) A1) := (HO4.out.below hb).alloc _
  have HP6 : Hid (Own .i8 51 (w6.alloc (.cells #[.int .i64 (r3 : Int), .slice a3 M d3] 34)) (B1 + 1) (.slice a2 M d2) A2) := (HP4.out.below hb).alloc _
  have HR6 : Hid (Own .i8 51 (w6.alloc (.cells #[.int .i64 (r3 : Int), .slice a3 M d3] 34)) (B1 + 1) (.slice a3 M d3) A3) := (hO.alloc _).base (by omega)
  have hz6 := hb.size
  clear hb S4 c1 f1 z1 hO HO4 HP4 HLo
  go_upto_region 6 with fail
  obtain ⟨w7, hw7⟩ : ∃ w7, w6.alloc (.cells #[.int .i64 (r3 : Int), .slice a3 M d3] 34) = w7 := ⟨_, rfl⟩
  obtain ⟨B3, hB3⟩ : ∃ B, w6.heap.size = B := ⟨_, rfl⟩
  have hz7 : w7.heap.size = B3 + 1 := by rw [← hw7, ← hB3]; simp
  rw [hw7, hB3] at S6
  rw [hw7] at HO6 HP6 HR6
  rw [hw7, hB3]
  rw [hB3] at hz6
  clear hw7 hB3
  obtain ⟨-, -, -, -, -, -, -, -, -, c1, f1, z1, -⟩ := S6.out.rules
  go_wp2_with fail
  refine Calls.mono (HBr.out _ S6.out.below) ?_
  rintro e w8 ⟨⟨r, f, g, A4, vl, ok, e2, hl4, rfl, hO⟩, hb⟩
  obtain ⟨a4, d4, rfl, -, -⟩ := hO.row
  obtain ⟨l4, hl4e⟩ : ∃ l, A4.length = l := ⟨_, rfl⟩
  rw [hl4e] at hO hl4 ⊢
  have S8 : Hid (St W (w8.alloc (.cells #[.int .i64 (r : Int), .int .i64 (f : Int), .int .i64 (g : Int), .slice a4 l4 d4] 48)) _) := (S6.out.call hb).new (c := #[.int .i64 (r : Int), .int .i64 (f : Int), .int .i64 (g : Int), .slice a4 l4 d4]) (t := 48)
  have HO8 : Hid (Own .i8 51 (w8.alloc (.cells #[.int .i64 (r : Int), .int .i64 (f : Int), .int .i64 (g : Int), .slice a4 l4 d4] 48)) w1.heap.size (.slice a1 M d1) A1) := (HO6.out.below hb).alloc _
  have HP8 : Hid (Own .i8 51 (w8.alloc (.cells #[.int .i64 (r : Int), .int .i64 (f : Int), .int .i64 (g : Int), .slice a4 l4 d4] 48)) (B1 + 1) (.slice a2 M d2) A2) := (HP6.out.below hb).alloc _
  have HR8 : Hid (Own .i8 51 (w8.alloc (.cells #[.int .i64 (r : Int), .int .i64 (f : Int), .int .i64 (g : Int), .slice a4 l4 d4] 48)) (B1 + 1) (.slice a3 M d3) A3) := (HR6.out.below hb).alloc _
  have HS8 : Hid (Own .i8 51 (w8.alloc (.cells #[.int .i64 (r : Int), .int .i64 (f : Int), .int .i64 (g : Int), .slice a4 l4 d4] 48)) (B1 + 1) (.slice a4 l4 d4) A4) := (hO.alloc _).base (by omega)
  have hz8 := hb.size
  clear hb S6 c1 f1 z1 hO HO6 HP6 HR6 HBr
  go_upto_region 7 with fail
  obtain ⟨w9, hw9⟩ : ∃ w9, w8.alloc (.cells #[.int .i64 (r : Int), .int .i64 (f : Int), .int .i64 (g : Int), .slice a4 l4 d4] 48) = w9 := ⟨_, rfl⟩
  obtain ⟨B4, hB4⟩ : ∃ B, w8.heap.size = B := ⟨_, rfl⟩
  have hz9 : w9.heap.size = B4 + 1 := by rw [← hw9, ← hB4]; simp
  rw [hw9, hB4] at S8
  rw [hw9] at HO8 HP8 HR8 HS8
  rw [hw9, hB4]
  rw [hB4] at hz8
  clear hw9 hB4
  go_upto_region 9 with fail
  have HXB : Hid (∀ w', Below w9.heap.size w9 w' → IRow .i8 w' a2 M d2 A2) := fun w' q => by obtain ⟨a', c', e', r', -⟩ := (HP8.out.below q).row; have hl := HP8.out.len; rw [hl] at e' r'; cases e'; exact r'
  have HXC : Hid (∀ w', Below w9.heap.size w9 w' → IRow .i8 w' a3 M d3 A3) := fun w' q => by obtain ⟨a', c', e', r', -⟩ := (HR8.out.below q).row; have hl := HR8.out.len; rw [hl] at e' r'; cases e'; exact r'
  have HXL : Hid (∀ w', Below w9.heap.size w9 w' → IRow .i8 w' a4 l4 d4 A4) := fun w' q => by obtain ⟨a', c', e', r', -⟩ := (HS8.out.below q).row; have hl := HS8.out.len; rw [hl] at e' r'; cases e'; exact r'
  have HSt : Hid (∀ w', Below w9.heap.size w9 w' → St W w' _) := fun w' q => S8.out.call q
  go_cut [12, 13, 14] from 80 to 91 (fun x y z wx => RS w9 wx [] [(z, A4), (y, A3), (x, A2)])
  case first =>
    refine regionC (fun w' => Below w9.heap.size w9 w') (by kernel_rfl) ?_
    obtain ⟨wd, hwd⟩ : ∃ wd, w9.drew = wd := ⟨_, rfl⟩
    have HD : Below w9.heap.size w9 wd := by rw [← hwd]; exact (Below.refl _ _).drew
    rw [hwd]
    clear hwd
    refine takeC 1 (v := .pointer (some ⟨B2, 1, none⟩)) rfl rfl (by kernel_rfl) (by kernel_rfl) (by kernel_rfl) (fun _ _ _ h => h) (fun _ => rfl) rfl (fun w' hw' => by go_simp) ?_
    refine takeC 2 (v := .slice a2 M d2) rfl rfl (by kernel_rfl) (by kernel_rfl) (by kernel_rfl) (fun _ _ _ h => h) (fun _ => rfl) rfl (fun w' hw' => by have hc := (cells_at (HSt.out w' hw').h3).1 1; go_simp) ?_
    refine takeC 5 (v := .pointer (some ⟨B3, 1, none⟩)) rfl rfl (by kernel_rfl) (by kernel_rfl) (by kernel_rfl) (fun _ _ _ h => h) (fun _ => rfl) rfl (fun w' hw' => by go_simp) ?_
    refine takeC 6 (v := .slice a3 M d3) rfl rfl (by kernel_rfl) (by kernel_rfl) (by kernel_rfl) (fun _ _ _ h => h) (fun _ => rfl) rfl (fun w' hw' => by have hc := (cells_at (HSt.out w' hw').h2).1 1; go_simp) ?_
    refine takeC 9 (v := .pointer (some ⟨B4, 3, none⟩)) rfl rfl (by kernel_rfl) (by kernel_rfl) (by kernel_rfl) (fun _ _ _ h => h) (fun _ => rfl) rfl (fun w' hw' => by go_simp) ?_
    refine takeC 10 (v := .slice a4 l4 d4) rfl rfl (by kernel_rfl) (by kernel_rfl) (by kernel_rfl) (fun _ _ _ h => h) (fun _ => rfl) rfl (fun w' hw' => by have hc := (cells_at (HSt.out w' hw').h1).1 3; go_simp) ?_
    have R0 := RS.start HD
    have hl4M : l4 ≤ 16384 := by omega
    refine w3C 0 4 8 R0.bel (by kernel_rfl) ?_ ?_ ?_
    · have R1 := R0.alloc
      refine w1R rfl rfl (.slice (some ⟨wd.heap.size, 0, none⟩) 0 0) (wd.alloc (.cells #[] 51)) (by kernel_rfl) ?_
      obtain ⟨x1, e1⟩ : ∃ x, wd.alloc (.cells #[] 51) = x := ⟨_, rfl⟩
      obtain ⟨g1, f1⟩ : ∃ x, wd.heap.size = x := ⟨_, rfl⟩
      rw [e1, f1] at R1
      rw [e1, f1]
      clear e1 f1
      refine w3C 3 4 8 R1.bel (by kernel_rfl) ?_ ?_ ?_
      · obtain ⟨v2, x2, h2, o2, q2, b2⟩ := run_app8 (w := x1) w9.heap.size (.slice (some ⟨g1, 0, none⟩) 0 0) [] A2 32 (R1.emp g1 List.mem_cons_self) a2 M d2 (HXB.out x1 R1.bel) (by simp; omega) R1.bel.size
        have R2 := R1.app q2 o2 b2
        refine w1R rfl rfl v2 x2 (run_apO (.tmp 80) (.tmp 82) rfl (by kernel_rfl) (by kernel_rfl) h2) ?_
        clear h2 o2 q2 b2
        refine w2C 4 8 R2.bel (by kernel_rfl) ?_ ?_
        · have R3 := R2.alloc
          refine w1R rfl rfl (.slice (some ⟨x2.heap.size, 0, none⟩) 0 0) (x2.alloc (.cells #[] 51)) (by kernel_rfl) ?_
          obtain ⟨x3, e3⟩ : ∃ x, x2.alloc (.cells #[] 51) = x := ⟨_, rfl⟩
          obtain ⟨g3, f3⟩ : ∃ x, x2.heap.size = x := ⟨_, rfl⟩
          rw [e3, f3] at R3
          rw [e3, f3]
          clear e3 f3
          refine w2C 7 8 R3.bel (by kernel_rfl) ?_ ?_
          · obtain ⟨v4, x4, h4, o4, q4, b4⟩ := run_app8 (w := x3) w9.heap.size (.slice (some ⟨g3, 0, none⟩) 0 0) [] A3 32 (R3.emp g3 List.mem_cons_self) a3 M d3 (HXC.out x3 R3.bel) (by simp; omega) R3.bel.size
            have R4 := R3.app q4 o4 b4
            refine w1R rfl rfl v4 x4 (run_apO (.tmp 84) (.tmp 86) rfl (by kernel_rfl) (by kernel_rfl) h4) ?_
            clear h4 o4 q4 b4
            have R5 := R4.alloc
            refine yR 8 R4.bel (by kernel_rfl) rfl rfl (.slice (some ⟨x4.heap.size, 0, none⟩) 0 0) (x4.alloc (.cells #[] 51)) (by kernel_rfl) ?_
            obtain ⟨x5, e5⟩ : ∃ x, x4.alloc (.cells #[] 51) = x := ⟨_, rfl⟩
            obtain ⟨g5, f5⟩ : ∃ x, x4.heap.size = x := ⟨_, rfl⟩
            rw [e5, f5] at R5
            rw [e5, f5]
            clear e5 f5
            obtain ⟨v6, x6, h6, o6, q6, b6⟩ := run_app8 (w := x5) w9.heap.size (.slice (some ⟨g5, 0, none⟩) 0 0) [] A4 32 (R5.emp g5 List.mem_cons_self) a4 l4 d4 (HXL.out x5 R5.bel) (by simp; omega) R5.bel.size
            have R6 := R5.app q6 o6 b6
            refine yR 11 R5.bel (by kernel_rfl) rfl rfl v6 x6 (run_apO (.tmp 88) (.tmp 90) rfl (by kernel_rfl) (by kernel_rfl) h6) ?_
            clear h6 o6 q6 b6
            refine yR 12 R6.bel (by kernel_rfl) rfl rfl v2 x6 (by kernel_rfl) ?_
            refine yR 13 R6.bel (by kernel_rfl) rfl rfl v4 x6 (by kernel_rfl) ?_
            refine yR 14 R6.bel (by kernel_rfl) rfl rfl v6 x6 (by kernel_rfl) ?_
            refine doneC R6.bel (by kernel_rfl) ?_ _
            refine (show ∀ a' w', Met _ a' w' → _ from by assumption) _ _ ?_
            refine Met.intro ?_
            go_step
            exact ⟨v2, v4, v6, .slice (some ⟨g1, 0, none⟩) 0 0, .pointer (some ⟨B2, 1, none⟩), .slice a2 M d2, v2, .slice (some ⟨g3, 0, none⟩) 0 0, .pointer (some ⟨B3, 1, none⟩), .slice a3 M d3, v4, .slice (some ⟨g5, 0, none⟩) 0 0, .pointer (some ⟨B4, 3, none⟩), .slice a4 l4 d4, v6, R6, by kernel_rfl⟩
          · have R7 := R3.alloc
            refine w1R rfl rfl (.slice (some ⟨x3.heap.size, 0, none⟩) 0 0) (x3.alloc (.cells #[] 51)) (by kernel_rfl) ?_
            obtain ⟨x7, e7⟩ : ∃ x, x3.alloc (.cells #[] 51) = x := ⟨_, rfl⟩
            obtain ⟨g7, f7⟩ : ∃ x, x3.heap.size = x := ⟨_, rfl⟩
            rw [e7, f7] at R7
            rw [e7, f7]
            clear e7 f7
            obtain ⟨v8, x8, h8, o8, q8, b8⟩ := run_app8 (w := x7) w9.heap.size (.slice (some ⟨g3, 0, none⟩) 0 0) [] A3 32 (R7.up1.emp g3 List.mem_cons_self) a3 M d3 (HXC.out x7 R7.bel) (by simp; omega) R7.bel.size
            have R8 := R7.up1.app q8 o8 b8
            refine yR 7 R7.bel (by kernel_rfl) rfl rfl v8 x8 (run_apO (.tmp 84) (.tmp 86) rfl (by kernel_rfl) (by kernel_rfl) h8) ?_
            clear h8 o8 q8 b8
            obtain ⟨v9, x9, h9, o9, q9, b9⟩ := run_app8 (w := x8) w9.heap.size (.slice (some ⟨g7, 0, none⟩) 0 0) [] A4 32 (R8.emp g7 List.mem_cons_self) a4 l4 d4 (HXL.out x8 R8.bel) (by simp; omega) R8.bel.size
            have R9 := R8.app q9 o9 b9
            refine yR 11 R8.bel (by kernel_rfl) rfl rfl v9 x9 (run_apO (.tmp 88) (.tmp 90) rfl (by kernel_rfl) (by kernel_rfl) h9) ?_
            clear h9 o9 q9 b9
            refine yR 12 R9.bel (by kernel_rfl) rfl rfl v2 x9 (by kernel_rfl) ?_
            refine yR 13 R9.bel (by kernel_rfl) rfl rfl v8 x9 (by kernel_rfl) ?_
            refine yR 14 R9.bel (by kernel_rfl) rfl rfl v9 x9 (by kernel_rfl) ?_
            refine doneC R9.bel (by kernel_rfl) ?_ _
            refine (show ∀ a' w', Met _ a' w' → _ from by assumption) _ _ ?_
            refine Met.intro ?_
            go_step
            exact ⟨v2, v8, v9, .slice (some ⟨g1, 0, none⟩) 0 0, .pointer (some ⟨B2, 1, none⟩), .slice a2 M d2, v2, .slice (some ⟨g3, 0, none⟩) 0 0, .pointer (some ⟨B3, 1, none⟩), .slice a3 M d3, v8, .slice (some ⟨g7, 0, none⟩) 0 0, .pointer (some ⟨B4, 3, none⟩), .slice a4 l4 d4, v9, R9, by kernel_rfl⟩
        · have R10 := R2.alloc
          refine w1R rfl rfl (.slice (some ⟨x2.heap.size, 0, none⟩) 0 0) (x2.alloc (.cells #[] 51)) (by kernel_rfl) ?_
          obtain ⟨x10, e10⟩ : ∃ x, x2.alloc (.cells #[] 51) = x := ⟨_, rfl⟩
          obtain ⟨g10, f10⟩ : ∃ x, x2.heap.size = x := ⟨_, rfl⟩
          rw [e10, f10] at R10
          rw [e10, f10]
          clear e10 f10
          have R11 := R10.alloc
          refine yR 4 R10.bel (by kernel_rfl) rfl rfl (.slice (some ⟨x10.heap.size, 0, none⟩) 0 0) (x10.alloc (.cells #[] 51)) (by kernel_rfl) ?_
          obtain ⟨x11, e11⟩ : ∃ x, x10.alloc (.cells #[] 51) = x := ⟨_, rfl⟩
          obtain ⟨g11, f11⟩ : ∃ x, x10.heap.size = x := ⟨_, rfl⟩
          rw [e11, f11] at R11
          rw [e11, f11]
          clear e11 f11
          obtain ⟨v12, x12, h12, o12, q12, b12⟩ := run_app8 (w := x11) w9.heap.size (.slice (some ⟨g11, 0, none⟩) 0 0) [] A3 32 (R11.emp g11 List.mem_cons_self) a3 M d3 (HXC.out x11 R11.bel) (by simp; omega) R11.bel.size
          have R12 := R11.app q12 o12 b12
          refine yR 7 R11.bel (by kernel_rfl) rfl rfl v12 x12 (run_apO (.tmp 84) (.tmp 86) rfl (by kernel_rfl) (by kernel_rfl) h12) ?_
          clear h12 o12 q12 b12
          obtain ⟨v13, x13, h13, o13, q13, b13⟩ := run_app8 (w := x12) w9.heap.size (.slice (some ⟨g10, 0, none⟩) 0 0) [] A4 32 (R12.emp g10 List.mem_cons_self) a4 l4 d4 (HXL.out x12 R12.bel) (by simp; omega) R12.bel.size
          have R13 := R12.app q13 o13 b13
          refine yR 11 R12.bel (by kernel_rfl) rfl rfl v13 x13 (run_apO (.tmp 88) (.tmp 90) rfl (by kernel_rfl) (by kernel_rfl) h13) ?_
          clear h13 o13 q13 b13
          refine yR 12 R13.bel (by kernel_rfl) rfl rfl v2 x13 (by kernel_rfl) ?_
          refine yR 13 R13.bel (by kernel_rfl) rfl rfl v12 x13 (by kernel_rfl) ?_
          refine yR 14 R13.bel (by kernel_rfl) rfl rfl v13 x13 (by kernel_rfl) ?_
          refine doneC R13.bel (by kernel_rfl) ?_ _
          refine (show ∀ a' w', Met _ a' w' → _ from by assumption) _ _ ?_
          refine Met.intro ?_
          go_step
          exact ⟨v2, v12, v13, .slice (some ⟨g1, 0, none⟩) 0 0, .pointer (some ⟨B2, 1, none⟩), .slice a2 M d2, v2, .slice (some ⟨g11, 0, none⟩) 0 0, .pointer (some ⟨B3, 1, none⟩), .slice a3 M d3, v12, .slice (some ⟨g10, 0, none⟩) 0 0, .pointer (some ⟨B4, 3, none⟩), .slice a4 l4 d4, v13, R13, by kernel_rfl⟩
      · have R14 := R1.alloc
        refine w1R rfl rfl (.slice (some ⟨x1.heap.size, 0, none⟩) 0 0) (x1.alloc (.cells #[] 51)) (by kernel_rfl) ?_
        obtain ⟨x14, e14⟩ : ∃ x, x1.alloc (.cells #[] 51) = x := ⟨_, rfl⟩
        obtain ⟨g14, f14⟩ : ∃ x, x1.heap.size = x := ⟨_, rfl⟩
        rw [e14, f14] at R14
        rw [e14, f14]
        clear e14 f14
        refine w2C 3 8 R14.bel (by kernel_rfl) ?_ ?_
        · obtain ⟨v15, x15, h15, o15, q15, b15⟩ := run_app8 (w := x14) w9.heap.size (.slice (some ⟨g1, 0, none⟩) 0 0) [] A2 32 (R14.up1.emp g1 List.mem_cons_self) a2 M d2 (HXB.out x14 R14.bel) (by simp; omega) R14.bel.size
          have R15 := R14.up1.app q15 o15 b15
          refine w1R rfl rfl v15 x15 (run_apO (.tmp 80) (.tmp 82) rfl (by kernel_rfl) (by kernel_rfl) h15) ?_
          clear h15 o15 q15 b15
          refine w2C 7 8 R15.bel (by kernel_rfl) ?_ ?_
          · obtain ⟨v16, x16, h16, o16, q16, b16⟩ := run_app8 (w := x15) w9.heap.size (.slice (some ⟨g14, 0, none⟩) 0 0) [] A3 32 (R15.emp g14 List.mem_cons_self) a3 M d3 (HXC.out x15 R15.bel) (by simp; omega) R15.bel.size
            have R16 := R15.app q16 o16 b16
            refine w1R rfl rfl v16 x16 (run_apO (.tmp 84) (.tmp 86) rfl (by kernel_rfl) (by kernel_rfl) h16) ?_
            clear h16 o16 q16 b16
            have R17 := R16.alloc
            refine yR 8 R16.bel (by kernel_rfl) rfl rfl (.slice (some ⟨x16.heap.size, 0, none⟩) 0 0) (x16.alloc (.cells #[] 51)) (by kernel_rfl) ?_
            obtain ⟨x17, e17⟩ : ∃ x, x16.alloc (.cells #[] 51) = x := ⟨_, rfl⟩
            obtain ⟨g17, f17⟩ : ∃ x, x16.heap.size = x := ⟨_, rfl⟩
            rw [e17, f17] at R17
            rw [e17, f17]
            clear e17 f17
            obtain ⟨v18, x18, h18, o18, q18, b18⟩ := run_app8 (w := x17) w9.heap.size (.slice (some ⟨g17, 0, none⟩) 0 0) [] A4 32 (R17.emp g17 List.mem_cons_self) a4 l4 d4 (HXL.out x17 R17.bel) (by simp; omega) R17.bel.size
            have R18 := R17.app q18 o18 b18
            refine yR 11 R17.bel (by kernel_rfl) rfl rfl v18 x18 (run_apO (.tmp 88) (.tmp 90) rfl (by kernel_rfl) (by kernel_rfl) h18) ?_
            clear h18 o18 q18 b18
            refine yR 12 R18.bel (by kernel_rfl) rfl rfl v15 x18 (by kernel_rfl) ?_
            refine yR 13 R18.bel (by kernel_rfl) rfl rfl v16 x18 (by kernel_rfl) ?_
            refine yR 14 R18.bel (by kernel_rfl) rfl rfl v18 x18 (by kernel_rfl) ?_
            refine doneC R18.bel (by kernel_rfl) ?_ _
            refine (show ∀ a' w', Met _ a' w' → _ from by assumption) _ _ ?_
            refine Met.intro ?_
            go_step
            exact ⟨v15, v16, v18, .slice (some ⟨g1, 0, none⟩) 0 0, .pointer (some ⟨B2, 1, none⟩), .slice a2 M d2, v15, .slice (some ⟨g14, 0, none⟩) 0 0, .pointer (some ⟨B3, 1, none⟩), .slice a3 M d3, v16, .slice (some ⟨g17, 0, none⟩) 0 0, .pointer (some ⟨B4, 3, none⟩), .slice a4 l4 d4, v18, R18, by kernel_rfl⟩
          · have R19 := R15.alloc
            refine w1R rfl rfl (.slice (some ⟨x15.heap.size, 0, none⟩) 0 0) (x15.alloc (.cells #[] 51)) (by kernel_rfl) ?_
            obtain ⟨x19, e19⟩ : ∃ x, x15.alloc (.cells #[] 51) = x := ⟨_, rfl⟩
            obtain ⟨g19, f19⟩ : ∃ x, x15.heap.size = x := ⟨_, rfl⟩
            rw [e19, f19] at R19
            rw [e19, f19]
            clear e19 f19
            obtain ⟨v20, x20, h20, o20, q20, b20⟩ := run_app8 (w := x19) w9.heap.size (.slice (some ⟨g14, 0, none⟩) 0 0) [] A3 32 (R19.up1.emp g14 List.mem_cons_self) a3 M d3 (HXC.out x19 R19.bel) (by simp; omega) R19.bel.size
            have R20 := R19.up1.app q20 o20 b20
            refine yR 7 R19.bel (by kernel_rfl) rfl rfl v20 x20 (run_apO (.tmp 84) (.tmp 86) rfl (by kernel_rfl) (by kernel_rfl) h20) ?_
            clear h20 o20 q20 b20
            obtain ⟨v21, x21, h21, o21, q21, b21⟩ := run_app8 (w := x20) w9.heap.size (.slice (some ⟨g19, 0, none⟩) 0 0) [] A4 32 (R20.emp g19 List.mem_cons_self) a4 l4 d4 (HXL.out x20 R20.bel) (by simp; omega) R20.bel.size
            have R21 := R20.app q21 o21 b21
            refine yR 11 R20.bel (by kernel_rfl) rfl rfl v21 x21 (run_apO (.tmp 88) (.tmp 90) rfl (by kernel_rfl) (by kernel_rfl) h21) ?_
            clear h21 o21 q21 b21
            refine yR 12 R21.bel (by kernel_rfl) rfl rfl v15 x21 (by kernel_rfl) ?_
            refine yR 13 R21.bel (by kernel_rfl) rfl rfl v20 x21 (by kernel_rfl) ?_
            refine yR 14 R21.bel (by kernel_rfl) rfl rfl v21 x21 (by kernel_rfl) ?_
            refine doneC R21.bel (by kernel_rfl) ?_ _
            refine (show ∀ a' w', Met _ a' w' → _ from by assumption) _ _ ?_
            refine Met.intro ?_
            go_step
            exact ⟨v15, v20, v21, .slice (some ⟨g1, 0, none⟩) 0 0, .pointer (some ⟨B2, 1, none⟩), .slice a2 M d2, v15, .slice (some ⟨g14, 0, none⟩) 0 0, .pointer (some ⟨B3, 1, none⟩), .slice a3 M d3, v20, .slice (some ⟨g19, 0, none⟩) 0 0, .pointer (some ⟨B4, 3, none⟩), .slice a4 l4 d4, v21, R21, by kernel_rfl⟩
        · have R22 := R14.alloc
          refine w1R rfl rfl (.slice (some ⟨x14.heap.size, 0, none⟩) 0 0) (x14.alloc (.cells #[] 51)) (by kernel_rfl) ?_
          obtain ⟨x22, e22⟩ : ∃ x, x14.alloc (.cells #[] 51) = x := ⟨_, rfl⟩
          obtain ⟨g22, f22⟩ : ∃ x, x14.heap.size = x := ⟨_, rfl⟩
          rw [e22, f22] at R22
          rw [e22, f22]
          clear e22 f22
          obtain ⟨v23, x23, h23, o23, q23, b23⟩ := run_app8 (w := x22) w9.heap.size (.slice (some ⟨g1, 0, none⟩) 0 0) [] A2 32 (R22.up2.emp g1 List.mem_cons_self) a2 M d2 (HXB.out x22 R22.bel) (by simp; omega) R22.bel.size
          have R23 := R22.up2.app q23 o23 b23
          refine yR 3 R22.bel (by kernel_rfl) rfl rfl v23 x23 (run_apO (.tmp 80) (.tmp 82) rfl (by kernel_rfl) (by kernel_rfl) h23) ?_
          clear h23 o23 q23 b23
          obtain ⟨v24, x24, h24, o24, q24, b24⟩ := run_app8 (w := x23) w9.heap.size (.slice (some ⟨g14, 0, none⟩) 0 0) [] A3 32 (R23.up1.emp g14 List.mem_cons_self) a3 M d3 (HXC.out x23 R23.bel) (by simp; omega) R23.bel.size
          have R24 := R23.up1.app q24 o24 b24
          refine yR 7 R23.bel (by kernel_rfl) rfl rfl v24 x24 (run_apO (.tmp 84) (.tmp 86) rfl (by kernel_rfl) (by kernel_rfl) h24) ?_
          clear h24 o24 q24 b24
          obtain ⟨v25, x25, h25, o25, q25, b25⟩ := run_app8 (w := x24) w9.heap.size (.slice (some ⟨g22, 0, none⟩) 0 0) [] A4 32 (R24.emp g22 List.mem_cons_self) a4 l4 d4 (HXL.out x24 R24.bel) (by simp; omega) R24.bel.size
          have R25 := R24.app q25 o25 b25
          refine yR 11 R24.bel (by kernel_rfl) rfl rfl v25 x25 (run_apO (.tmp 88) (.tmp 90) rfl (by kernel_rfl) (by kernel_rfl) h25) ?_
          clear h25 o25 q25 b25
          refine yR 12 R25.bel (by kernel_rfl) rfl rfl v23 x25 (by kernel_rfl) ?_
          refine yR 13 R25.bel (by kernel_rfl) rfl rfl v24 x25 (by kernel_rfl) ?_
          refine yR 14 R25.bel (by kernel_rfl) rfl rfl v25 x25 (by kernel_rfl) ?_
          refine doneC R25.bel (by kernel_rfl) ?_ _
          refine (show ∀ a' w', Met _ a' w' → _ from by assumption) _ _ ?_
          refine Met.intro ?_
          go_step
          exact ⟨v23, v24, v25, .slice (some ⟨g1, 0, none⟩) 0 0, .pointer (some ⟨B2, 1, none⟩), .slice a2 M d2, v23, .slice (some ⟨g14, 0, none⟩) 0 0, .pointer (some ⟨B3, 1, none⟩), .slice a3 M d3, v24, .slice (some ⟨g22, 0, none⟩) 0 0, .pointer (some ⟨B4, 3, none⟩), .slice a4 l4 d4, v25, R25, by kernel_rfl⟩
      · have R26 := R1.alloc
        refine w1R rfl rfl (.slice (some ⟨x1.heap.size, 0, none⟩) 0 0) (x1.alloc (.cells #[] 51)) (by kernel_rfl) ?_
        obtain ⟨x26, e26⟩ : ∃ x, x1.alloc (.cells #[] 51) = x := ⟨_, rfl⟩
        obtain ⟨g26, f26⟩ : ∃ x, x1.heap.size = x := ⟨_, rfl⟩
        rw [e26, f26] at R26
        rw [e26, f26]
        clear e26 f26
        refine w2C 3 4 R26.bel (by kernel_rfl) ?_ ?_
        · obtain ⟨v27, x27, h27, o27, q27, b27⟩ := run_app8 (w := x26) w9.heap.size (.slice (some ⟨g1, 0, none⟩) 0 0) [] A2 32 (R26.up1.emp g1 List.mem_cons_self) a2 M d2 (HXB.out x26 R26.bel) (by simp; omega) R26.bel.size
          have R27 := R26.up1.app q27 o27 b27
          refine w1R rfl rfl v27 x27 (run_apO (.tmp 80) (.tmp 82) rfl (by kernel_rfl) (by kernel_rfl) h27) ?_
          clear h27 o27 q27 b27
          have R28 := R27.alloc
          refine yR 4 R27.bel (by kernel_rfl) rfl rfl (.slice (some ⟨x27.heap.size, 0, none⟩) 0 0) (x27.alloc (.cells #[] 51)) (by kernel_rfl) ?_
          obtain ⟨x28, e28⟩ : ∃ x, x27.alloc (.cells #[] 51) = x := ⟨_, rfl⟩
          obtain ⟨g28, f28⟩ : ∃ x, x27.heap.size = x := ⟨_, rfl⟩
          rw [e28, f28] at R28
          rw [e28, f28]
          clear e28 f28
          obtain ⟨v29, x29, h29, o29, q29, b29⟩ := run_app8 (w := x28) w9.heap.size (.slice (some ⟨g28, 0, none⟩) 0 0) [] A3 32 (R28.emp g28 List.mem_cons_self) a3 M d3 (HXC.out x28 R28.bel) (by simp; omega) R28.bel.size
          have R29 := R28.app q29 o29 b29
          refine yR 7 R28.bel (by kernel_rfl) rfl rfl v29 x29 (run_apO (.tmp 84) (.tmp 86) rfl (by kernel_rfl) (by kernel_rfl) h29) ?_
          clear h29 o29 q29 b29
          obtain ⟨v30, x30, h30, o30, q30, b30⟩ := run_app8 (w := x29) w9.heap.size (.slice (some ⟨g26, 0, none⟩) 0 0) [] A4 32 (R29.emp g26 List.mem_cons_self) a4 l4 d4 (HXL.out x29 R29.bel) (by simp; omega) R29.bel.size
          have R30 := R29.app q30 o30 b30
          refine yR 11 R29.bel (by kernel_rfl) rfl rfl v30 x30 (run_apO (.tmp 88) (.tmp 90) rfl (by kernel_rfl) (by kernel_rfl) h30) ?_
          clear h30 o30 q30 b30
          refine yR 12 R30.bel (by kernel_rfl) rfl rfl v27 x30 (by kernel_rfl) ?_
          refine yR 13 R30.bel (by kernel_rfl) rfl rfl v29 x30 (by kernel_rfl) ?_
          refine yR 14 R30.bel (by kernel_rfl) rfl rfl v30 x30 (by kernel_rfl) ?_
          refine doneC R30.bel (by kernel_rfl) ?_ _
          refine (show ∀ a' w', Met _ a' w' → _ from by assumption) _ _ ?_
          refine Met.intro ?_
          go_step
          exact ⟨v27, v29, v30, .slice (some ⟨g1, 0, none⟩) 0 0, .pointer (some ⟨B2, 1, none⟩), .slice a2 M d2, v27, .slice (some ⟨g28, 0, none⟩) 0 0, .pointer (some ⟨B3, 1, none⟩), .slice a3 M d3, v29, .slice (some ⟨g26, 0, none⟩) 0 0, .pointer (some ⟨B4, 3, none⟩), .slice a4 l4 d4, v30, R30, by kernel_rfl⟩
        · have R31 := R26.alloc
          refine w1R rfl rfl (.slice (some ⟨x26.heap.size, 0, none⟩) 0 0) (x26.alloc (.cells #[] 51)) (by kernel_rfl) ?_
          obtain ⟨x31, e31⟩ : ∃ x, x26.alloc (.cells #[] 51) = x := ⟨_, rfl⟩
          obtain ⟨g31, f31⟩ : ∃ x, x26.heap.size = x := ⟨_, rfl⟩
          rw [e31, f31] at R31
          rw [e31, f31]
          clear e31 f31
          obtain ⟨v32, x32, h32, o32, q32, b32⟩ := run_app8 (w := x31) w9.heap.size (.slice (some ⟨g1, 0, none⟩) 0 0) [] A2 32 (R31.up2.emp g1 List.mem_cons_self) a2 M d2 (HXB.out x31 R31.bel) (by simp; omega) R31.bel.size
          have R32 := R31.up2.app q32 o32 b32
          refine yR 3 R31.bel (by kernel_rfl) rfl rfl v32 x32 (run_apO (.tmp 80) (.tmp 82) rfl (by kernel_rfl) (by kernel_rfl) h32) ?_
          clear h32 o32 q32 b32
          obtain ⟨v33, x33, h33, o33, q33, b33⟩ := run_app8 (w := x32) w9.heap.size (.slice (some ⟨g31, 0, none⟩) 0 0) [] A3 32 (R32.emp g31 List.mem_cons_self) a3 M d3 (HXC.out x32 R32.bel) (by simp; omega) R32.bel.size
          have R33 := R32.app q33 o33 b33
          refine yR 7 R32.bel (by kernel_rfl) rfl rfl v33 x33 (run_apO (.tmp 84) (.tmp 86) rfl (by kernel_rfl) (by kernel_rfl) h33) ?_
          clear h33 o33 q33 b33
          obtain ⟨v34, x34, h34, o34, q34, b34⟩ := run_app8 (w := x33) w9.heap.size (.slice (some ⟨g26, 0, none⟩) 0 0) [] A4 32 (R33.emp g26 List.mem_cons_self) a4 l4 d4 (HXL.out x33 R33.bel) (by simp; omega) R33.bel.size
          have R34 := R33.app q34 o34 b34
          refine yR 11 R33.bel (by kernel_rfl) rfl rfl v34 x34 (run_apO (.tmp 88) (.tmp 90) rfl (by kernel_rfl) (by kernel_rfl) h34) ?_
          clear h34 o34 q34 b34
          refine yR 12 R34.bel (by kernel_rfl) rfl rfl v32 x34 (by kernel_rfl) ?_
          refine yR 13 R34.bel (by kernel_rfl) rfl rfl v33 x34 (by kernel_rfl) ?_
          refine yR 14 R34.bel (by kernel_rfl) rfl rfl v34 x34 (by kernel_rfl) ?_
          refine doneC R34.bel (by kernel_rfl) ?_ _
          refine (show ∀ a' w', Met _ a' w' → _ from by assumption) _ _ ?_
          refine Met.intro ?_
          go_step
          exact ⟨v32, v33, v34, .slice (some ⟨g1, 0, none⟩) 0 0, .pointer (some ⟨B2, 1, none⟩), .slice a2 M d2, v32, .slice (some ⟨g31, 0, none⟩) 0 0, .pointer (some ⟨B3, 1, none⟩), .slice a3 M d3, v33, .slice (some ⟨g26, 0, none⟩) 0 0, .pointer (some ⟨B4, 3, none⟩), .slice a4 l4 d4, v34, R34, by kernel_rfl⟩
    · have R35 := R0.alloc
      refine w1R rfl rfl (.slice (some ⟨wd.heap.size, 0, none⟩) 0 0) (wd.alloc (.cells #[] 51)) (by kernel_rfl) ?_
      obtain ⟨x35, e35⟩ : ∃ x, wd.alloc (.cells #[] 51) = x := ⟨_, rfl⟩
      obtain ⟨g35, f35⟩ : ∃ x, wd.heap.size = x := ⟨_, rfl⟩
      rw [e35, f35] at R35
      rw [e35, f35]
      clear e35 f35
      refine w2C 0 8 R35.bel (by kernel_rfl) ?_ ?_
      · have R36 := R35.alloc
        refine w1R rfl rfl (.slice (some ⟨x35.heap.size, 0, none⟩) 0 0) (x35.alloc (.cells #[] 51)) (by kernel_rfl) ?_
        obtain ⟨x36, e36⟩ : ∃ x, x35.alloc (.cells #[] 51) = x := ⟨_, rfl⟩
        obtain ⟨g36, f36⟩ : ∃ x, x35.heap.size = x := ⟨_, rfl⟩
        rw [e36, f36] at R36
        rw [e36, f36]
        clear e36 f36
        refine w2C 3 8 R36.bel (by kernel_rfl) ?_ ?_
        · obtain ⟨v37, x37, h37, o37, q37, b37⟩ := run_app8 (w := x36) w9.heap.size (.slice (some ⟨g36, 0, none⟩) 0 0) [] A2 32 (R36.emp g36 List.mem_cons_self) a2 M d2 (HXB.out x36 R36.bel) (by simp; omega) R36.bel.size
          have R37 := R36.app q37 o37 b37
          refine w1R rfl rfl v37 x37 (run_apO (.tmp 80) (.tmp 82) rfl (by kernel_rfl) (by kernel_rfl) h37) ?_
          clear h37 o37 q37 b37
          refine w2C 7 8 R37.bel (by kernel_rfl) ?_ ?_
          · obtain ⟨v38, x38, h38, o38, q38, b38⟩ := run_app8 (w := x37) w9.heap.size (.slice (some ⟨g35, 0, none⟩) 0 0) [] A3 32 (R37.emp g35 List.mem_cons_self) a3 M d3 (HXC.out x37 R37.bel) (by simp; omega) R37.bel.size
            have R38 := R37.app q38 o38 b38
            refine w1R rfl rfl v38 x38 (run_apO (.tmp 84) (.tmp 86) rfl (by kernel_rfl) (by kernel_rfl) h38) ?_
            clear h38 o38 q38 b38
            have R39 := R38.alloc
            refine yR 8 R38.bel (by kernel_rfl) rfl rfl (.slice (some ⟨x38.heap.size, 0, none⟩) 0 0) (x38.alloc (.cells #[] 51)) (by kernel_rfl) ?_
            obtain ⟨x39, e39⟩ : ∃ x, x38.alloc (.cells #[] 51) = x := ⟨_, rfl⟩
            obtain ⟨g39, f39⟩ : ∃ x, x38.heap.size = x := ⟨_, rfl⟩
            rw [e39, f39] at R39
            rw [e39, f39]
            clear e39 f39
            obtain ⟨v40, x40, h40, o40, q40, b40⟩ := run_app8 (w := x39) w9.heap.size (.slice (some ⟨g39, 0, none⟩) 0 0) [] A4 32 (R39.emp g39 List.mem_cons_self) a4 l4 d4 (HXL.out x39 R39.bel) (by simp; omega) R39.bel.size
            have R40 := R39.app q40 o40 b40
            refine yR 11 R39.bel (by kernel_rfl) rfl rfl v40 x40 (run_apO (.tmp 88) (.tmp 90) rfl (by kernel_rfl) (by kernel_rfl) h40) ?_
            clear h40 o40 q40 b40
            refine yR 12 R40.bel (by kernel_rfl) rfl rfl v37 x40 (by kernel_rfl) ?_
            refine yR 13 R40.bel (by kernel_rfl) rfl rfl v38 x40 (by kernel_rfl) ?_
            refine yR 14 R40.bel (by kernel_rfl) rfl rfl v40 x40 (by kernel_rfl) ?_
            refine doneC R40.bel (by kernel_rfl) ?_ _
            refine (show ∀ a' w', Met _ a' w' → _ from by assumption) _ _ ?_
            refine Met.intro ?_
            go_step
            exact ⟨v37, v38, v40, .slice (some ⟨g36, 0, none⟩) 0 0, .pointer (some ⟨B2, 1, none⟩), .slice a2 M d2, v37, .slice (some ⟨g35, 0, none⟩) 0 0, .pointer (some ⟨B3, 1, none⟩), .slice a3 M d3, v38, .slice (some ⟨g39, 0, none⟩) 0 0, .pointer (some ⟨B4, 3, none⟩), .slice a4 l4 d4, v40, R40, by kernel_rfl⟩
          · have R41 := R37.alloc
            refine w1R rfl rfl (.slice (some ⟨x37.heap.size, 0, none⟩) 0 0) (x37.alloc (.cells #[] 51)) (by kernel_rfl) ?_
            obtain ⟨x41, e41⟩ : ∃ x, x37.alloc (.cells #[] 51) = x := ⟨_, rfl⟩
            obtain ⟨g41, f41⟩ : ∃ x, x37.heap.size = x := ⟨_, rfl⟩
            rw [e41, f41] at R41
            rw [e41, f41]
            clear e41 f41
            obtain ⟨v42, x42, h42, o42, q42, b42⟩ := run_app8 (w := x41) w9.heap.size (.slice (some ⟨g35, 0, none⟩) 0 0) [] A3 32 (R41.up1.emp g35 List.mem_cons_self) a3 M d3 (HXC.out x41 R41.bel) (by simp; omega) R41.bel.size
            have R42 := R41.up1.app q42 o42 b42
            refine yR 7 R41.bel (by kernel_rfl) rfl rfl v42 x42 (run_apO (.tmp 84) (.tmp 86) rfl (by kernel_rfl) (by kernel_rfl) h42) ?_
            clear h42 o42 q42 b42
            obtain ⟨v43, x43, h43, o43, q43, b43⟩ := run_app8 (w := x42) w9.heap.size (.slice (some ⟨g41, 0, none⟩) 0 0) [] A4 32 (R42.emp g41 List.mem_cons_self) a4 l4 d4 (HXL.out x42 R42.bel) (by simp; omega) R42.bel.size
            have R43 := R42.app q43 o43 b43
            refine yR 11 R42.bel (by kernel_rfl) rfl rfl v43 x43 (run_apO (.tmp 88) (.tmp 90) rfl (by kernel_rfl) (by kernel_rfl) h43) ?_
            clear h43 o43 q43 b43
            refine yR 12 R43.bel (by kernel_rfl) rfl rfl v37 x43 (by kernel_rfl) ?_
            refine yR 13 R43.bel (by kernel_rfl) rfl rfl v42 x43 (by kernel_rfl) ?_
            refine yR 14 R43.bel (by kernel_rfl) rfl rfl v43 x43 (by kernel_rfl) ?_
            refine doneC R43.bel (by kernel_rfl) ?_ _
            refine (show ∀ a' w', Met _ a' w' → _ from by assumption) _ _ ?_
            refine Met.intro ?_
            go_step
            exact ⟨v37, v42, v43, .slice (some ⟨g36, 0, none⟩) 0 0, .pointer (some ⟨B2, 1, none⟩), .slice a2 M d2, v37, .slice (some ⟨g35, 0, none⟩) 0 0, .pointer (some ⟨B3, 1, none⟩), .slice a3 M d3, v42, .slice (some ⟨g41, 0, none⟩) 0 0, .pointer (some ⟨B4, 3, none⟩), .slice a4 l4 d4, v43, R43, by kernel_rfl⟩
        · have R44 := R36.alloc
          refine w1R rfl rfl (.slice (some ⟨x36.heap.size, 0, none⟩) 0 0) (x36.alloc (.cells #[] 51)) (by kernel_rfl) ?_
          obtain ⟨x44, e44⟩ : ∃ x, x36.alloc (.cells #[] 51) = x := ⟨_, rfl⟩
          obtain ⟨g44, f44⟩ : ∃ x, x36.heap.size = x := ⟨_, rfl⟩
          rw [e44, f44] at R44
          rw [e44, f44]
          clear e44 f44
          obtain ⟨v45, x45, h45, o45, q45, b45⟩ := run_app8 (w := x44) w9.heap.size (.slice (some ⟨g36, 0, none⟩) 0 0) [] A2 32 (R44.up1.emp g36 List.mem_cons_self) a2 M d2 (HXB.out x44 R44.bel) (by simp; omega) R44.bel.size
          have R45 := R44.up1.app q45 o45 b45
          refine yR 3 R44.bel (by kernel_rfl) rfl rfl v45 x45 (run_apO (.tmp 80) (.tmp 82) rfl (by kernel_rfl) (by kernel_rfl) h45) ?_
          clear h45 o45 q45 b45
          obtain ⟨v46, x46, h46, o46, q46, b46⟩ := run_app8 (w := x45) w9.heap.size (.slice (some ⟨g35, 0, none⟩) 0 0) [] A3 32 (R45.up1.emp g35 List.mem_cons_self) a3 M d3 (HXC.out x45 R45.bel) (by simp; omega) R45.bel.size
          have R46 := R45.up1.app q46 o46 b46
          refine yR 7 R45.bel (by kernel_rfl) rfl rfl v46 x46 (run_apO (.tmp 84) (.tmp 86) rfl (by kernel_rfl) (by kernel_rfl) h46) ?_
          clear h46 o46 q46 b46
          obtain ⟨v47, x47, h47, o47, q47, b47⟩ := run_app8 (w := x46) w9.heap.size (.slice (some ⟨g44, 0, none⟩) 0 0) [] A4 32 (R46.emp g44 List.mem_cons_self) a4 l4 d4 (HXL.out x46 R46.bel) (by simp; omega) R46.bel.size
          have R47 := R46.app q47 o47 b47
          refine yR 11 R46.bel (by kernel_rfl) rfl rfl v47 x47 (run_apO (.tmp 88) (.tmp 90) rfl (by kernel_rfl) (by kernel_rfl) h47) ?_
          clear h47 o47 q47 b47
          refine yR 12 R47.bel (by kernel_rfl) rfl rfl v45 x47 (by kernel_rfl) ?_
          refine yR 13 R47.bel (by kernel_rfl) rfl rfl v46 x47 (by kernel_rfl) ?_
          refine yR 14 R47.bel (by kernel_rfl) rfl rfl v47 x47 (by kernel_rfl) ?_
          refine doneC R47.bel (by kernel_rfl) ?_ _
          refine (show ∀ a' w', Met _ a' w' → _ from by assumption) _ _ ?_
          refine Met.intro ?_
          go_step
          exact ⟨v45, v46, v47, .slice (some ⟨g36, 0, none⟩) 0 0, .pointer (some ⟨B2, 1, none⟩), .slice a2 M d2, v45, .slice (some ⟨g35, 0, none⟩) 0 0, .pointer (some ⟨B3, 1, none⟩), .slice a3 M d3, v46, .slice (some ⟨g44, 0, none⟩) 0 0, .pointer (some ⟨B4, 3, none⟩), .slice a4 l4 d4, v47, R47, by kernel_rfl⟩
      · have R48 := R35.alloc
        refine w1R rfl rfl (.slice (some ⟨x35.heap.size, 0, none⟩) 0 0) (x35.alloc (.cells #[] 51)) (by kernel_rfl) ?_
        obtain ⟨x48, e48⟩ : ∃ x, x35.alloc (.cells #[] 51) = x := ⟨_, rfl⟩
        obtain ⟨g48, f48⟩ : ∃ x, x35.heap.size = x := ⟨_, rfl⟩
        rw [e48, f48] at R48
        rw [e48, f48]
        clear e48 f48
        have R49 := R48.alloc
        refine yR 0 R48.bel (by kernel_rfl) rfl rfl (.slice (some ⟨x48.heap.size, 0, none⟩) 0 0) (x48.alloc (.cells #[] 51)) (by kernel_rfl) ?_
        obtain ⟨x49, e49⟩ : ∃ x, x48.alloc (.cells #[] 51) = x := ⟨_, rfl⟩
        obtain ⟨g49, f49⟩ : ∃ x, x48.heap.size = x := ⟨_, rfl⟩
        rw [e49, f49] at R49
        rw [e49, f49]
        clear e49 f49
        obtain ⟨v50, x50, h50, o50, q50, b50⟩ := run_app8 (w := x49) w9.heap.size (.slice (some ⟨g49, 0, none⟩) 0 0) [] A2 32 (R49.emp g49 List.mem_cons_self) a2 M d2 (HXB.out x49 R49.bel) (by simp; omega) R49.bel.size
        have R50 := R49.app q50 o50 b50
        refine yR 3 R49.bel (by kernel_rfl) rfl rfl v50 x50 (run_apO (.tmp 80) (.tmp 82) rfl (by kernel_rfl) (by kernel_rfl) h50) ?_
        clear h50 o50 q50 b50
        obtain ⟨v51, x51, h51, o51, q51, b51⟩ := run_app8 (w := x50) w9.heap.size (.slice (some ⟨g35, 0, none⟩) 0 0) [] A3 32 (R50.up1.emp g35 List.mem_cons_self) a3 M d3 (HXC.out x50 R50.bel) (by simp; omega) R50.bel.size
        have R51 := R50.up1.app q51 o51 b51
        refine yR 7 R50.bel (by kernel_rfl) rfl rfl v51 x51 (run_apO (.tmp 84) (.tmp 86) rfl (by kernel_rfl) (by kernel_rfl) h51) ?_
        clear h51 o51 q51 b51
        obtain ⟨v52, x52, h52, o52, q52, b52⟩ := run_app8 (w := x51) w9.heap.size (.slice (some ⟨g48, 0, none⟩) 0 0) [] A4 32 (R51.emp g48 List.mem_cons_self) a4 l4 d4 (HXL.out x51 R51.bel) (by simp; omega) R51.bel.size
        have R52 := R51.app q52 o52 b52
        refine yR 11 R51.bel (by kernel_rfl) rfl rfl v52 x52 (run_apO (.tmp 88) (.tmp 90) rfl (by kernel_rfl) (by kernel_rfl) h52) ?_
        clear h52 o52 q52 b52
        refine yR 12 R52.bel (by kernel_rfl) rfl rfl v50 x52 (by kernel_rfl) ?_
        refine yR 13 R52.bel (by kernel_rfl) rfl rfl v51 x52 (by kernel_rfl) ?_
        refine yR 14 R52.bel (by kernel_rfl) rfl rfl v52 x52 (by kernel_rfl) ?_
        refine doneC R52.bel (by kernel_rfl) ?_ _
        refine (show ∀ a' w', Met _ a' w' → _ from by assumption) _ _ ?_
        refine Met.intro ?_
        go_step
        exact ⟨v50, v51, v52, .slice (some ⟨g49, 0, none⟩) 0 0, .pointer (some ⟨B2, 1, none⟩), .slice a2 M d2, v50, .slice (some ⟨g35, 0, none⟩) 0 0, .pointer (some ⟨B3, 1, none⟩), .slice a3 M d3, v51, .slice (some ⟨g48, 0, none⟩) 0 0, .pointer (some ⟨B4, 3, none⟩), .slice a4 l4 d4, v52, R52, by kernel_rfl⟩
    · have R53 := R0.alloc
      refine w1R rfl rfl (.slice (some ⟨wd.heap.size, 0, none⟩) 0 0) (wd.alloc (.cells #[] 51)) (by kernel_rfl) ?_
      obtain ⟨x53, e53⟩ : ∃ x, wd.alloc (.cells #[] 51) = x := ⟨_, rfl⟩
      obtain ⟨g53, f53⟩ : ∃ x, wd.heap.size = x := ⟨_, rfl⟩
      rw [e53, f53] at R53
      rw [e53, f53]
      clear e53 f53
      refine w2C 0 4 R53.bel (by kernel_rfl) ?_ ?_
      · have R54 := R53.alloc
        refine w1R rfl rfl (.slice (some ⟨x53.heap.size, 0, none⟩) 0 0) (x53.alloc (.cells #[] 51)) (by kernel_rfl) ?_
        obtain ⟨x54, e54⟩ : ∃ x, x53.alloc (.cells #[] 51) = x := ⟨_, rfl⟩
        obtain ⟨g54, f54⟩ : ∃ x, x53.heap.size = x := ⟨_, rfl⟩
        rw [e54, f54] at R54
        rw [e54, f54]
        clear e54 f54
        refine w2C 3 4 R54.bel (by kernel_rfl) ?_ ?_
        · obtain ⟨v55, x55, h55, o55, q55, b55⟩ := run_app8 (w := x54) w9.heap.size (.slice (some ⟨g54, 0, none⟩) 0 0) [] A2 32 (R54.emp g54 List.mem_cons_self) a2 M d2 (HXB.out x54 R54.bel) (by simp; omega) R54.bel.size
          have R55 := R54.app q55 o55 b55
          refine w1R rfl rfl v55 x55 (run_apO (.tmp 80) (.tmp 82) rfl (by kernel_rfl) (by kernel_rfl) h55) ?_
          clear h55 o55 q55 b55
          have R56 := R55.alloc
          refine yR 4 R55.bel (by kernel_rfl) rfl rfl (.slice (some ⟨x55.heap.size, 0, none⟩) 0 0) (x55.alloc (.cells #[] 51)) (by kernel_rfl) ?_
          obtain ⟨x56, e56⟩ : ∃ x, x55.alloc (.cells #[] 51) = x := ⟨_, rfl⟩
          obtain ⟨g56, f56⟩ : ∃ x, x55.heap.size = x := ⟨_, rfl⟩
          rw [e56, f56] at R56
          rw [e56, f56]
          clear e56 f56
          obtain ⟨v57, x57, h57, o57, q57, b57⟩ := run_app8 (w := x56) w9.heap.size (.slice (some ⟨g56, 0, none⟩) 0 0) [] A3 32 (R56.emp g56 List.mem_cons_self) a3 M d3 (HXC.out x56 R56.bel) (by simp; omega) R56.bel.size
          have R57 := R56.app q57 o57 b57
          refine yR 7 R56.bel (by kernel_rfl) rfl rfl v57 x57 (run_apO (.tmp 84) (.tmp 86) rfl (by kernel_rfl) (by kernel_rfl) h57) ?_
          clear h57 o57 q57 b57
          obtain ⟨v58, x58, h58, o58, q58, b58⟩ := run_app8 (w := x57) w9.heap.size (.slice (some ⟨g53, 0, none⟩) 0 0) [] A4 32 (R57.emp g53 List.mem_cons_self) a4 l4 d4 (HXL.out x57 R57.bel) (by simp; omega) R57.bel.size
          have R58 := R57.app q58 o58 b58
          refine yR 11 R57.bel (by kernel_rfl) rfl rfl v58 x58 (run_apO (.tmp 88) (.tmp 90) rfl (by kernel_rfl) (by kernel_rfl) h58) ?_
          clear h58 o58 q58 b58
          refine yR 12 R58.bel (by kernel_rfl) rfl rfl v55 x58 (by kernel_rfl) ?_
          refine yR 13 R58.bel (by kernel_rfl) rfl rfl v57 x58 (by kernel_rfl) ?_
          refine yR 14 R58.bel (by kernel_rfl) rfl rfl v58 x58 (by kernel_rfl) ?_
          refine doneC R58.bel (by kernel_rfl) ?_ _
          refine (show ∀ a' w', Met _ a' w' → _ from by assumption) _ _ ?_
          refine Met.intro ?_
          go_step
          exact ⟨v55, v57, v58, .slice (some ⟨g54, 0, none⟩) 0 0, .pointer (some ⟨B2, 1, none⟩), .slice a2 M d2, v55, .slice (some ⟨g56, 0, none⟩) 0 0, .pointer (some ⟨B3, 1, none⟩), .slice a3 M d3, v57, .slice (some ⟨g53, 0, none⟩) 0 0, .pointer (some ⟨B4, 3, none⟩), .slice a4 l4 d4, v58, R58, by kernel_rfl⟩
        · have R59 := R54.alloc
          refine w1R rfl rfl (.slice (some ⟨x54.heap.size, 0, none⟩) 0 0) (x54.alloc (.cells #[] 51)) (by kernel_rfl) ?_
          obtain ⟨x59, e59⟩ : ∃ x, x54.alloc (.cells #[] 51) = x := ⟨_, rfl⟩
          obtain ⟨g59, f59⟩ : ∃ x, x54.heap.size = x := ⟨_, rfl⟩
          rw [e59, f59] at R59
          rw [e59, f59]
          clear e59 f59
          obtain ⟨v60, x60, h60, o60, q60, b60⟩ := run_app8 (w := x59) w9.heap.size (.slice (some ⟨g54, 0, none⟩) 0 0) [] A2 32 (R59.up1.emp g54 List.mem_cons_self) a2 M d2 (HXB.out x59 R59.bel) (by simp; omega) R59.bel.size
          have R60 := R59.up1.app q60 o60 b60
          refine yR 3 R59.bel (by kernel_rfl) rfl rfl v60 x60 (run_apO (.tmp 80) (.tmp 82) rfl (by kernel_rfl) (by kernel_rfl) h60) ?_
          clear h60 o60 q60 b60
          obtain ⟨v61, x61, h61, o61, q61, b61⟩ := run_app8 (w := x60) w9.heap.size (.slice (some ⟨g59, 0, none⟩) 0 0) [] A3 32 (R60.emp g59 List.mem_cons_self) a3 M d3 (HXC.out x60 R60.bel) (by simp; omega) R60.bel.size
          have R61 := R60.app q61 o61 b61
          refine yR 7 R60.bel (by kernel_rfl) rfl rfl v61 x61 (run_apO (.tmp 84) (.tmp 86) rfl (by kernel_rfl) (by kernel_rfl) h61) ?_
          clear h61 o61 q61 b61
          obtain ⟨v62, x62, h62, o62, q62, b62⟩ := run_app8 (w := x61) w9.heap.size (.slice (some ⟨g53, 0, none⟩) 0 0) [] A4 32 (R61.emp g53 List.mem_cons_self) a4 l4 d4 (HXL.out x61 R61.bel) (by simp; omega) R61.bel.size
          have R62 := R61.app q62 o62 b62
          refine yR 11 R61.bel (by kernel_rfl) rfl rfl v62 x62 (run_apO (.tmp 88) (.tmp 90) rfl (by kernel_rfl) (by kernel_rfl) h62) ?_
          clear h62 o62 q62 b62
          refine yR 12 R62.bel (by kernel_rfl) rfl rfl v60 x62 (by kernel_rfl) ?_
          refine yR 13 R62.bel (by kernel_rfl) rfl rfl v61 x62 (by kernel_rfl) ?_
          refine yR 14 R62.bel (by kernel_rfl) rfl rfl v62 x62 (by kernel_rfl) ?_
          refine doneC R62.bel (by kernel_rfl) ?_ _
          refine (show ∀ a' w', Met _ a' w' → _ from by assumption) _ _ ?_
          refine Met.intro ?_
          go_step
          exact ⟨v60, v61, v62, .slice (some ⟨g54, 0, none⟩) 0 0, .pointer (some ⟨B2, 1, none⟩), .slice a2 M d2, v60, .slice (some ⟨g59, 0, none⟩) 0 0, .pointer (some ⟨B3, 1, none⟩), .slice a3 M d3, v61, .slice (some ⟨g53, 0, none⟩) 0 0, .pointer (some ⟨B4, 3, none⟩), .slice a4 l4 d4, v62, R62, by kernel_rfl⟩
      · have R63 := R53.alloc
        refine w1R rfl rfl (.slice (some ⟨x53.heap.size, 0, none⟩) 0 0) (x53.alloc (.cells #[] 51)) (by kernel_rfl) ?_
        obtain ⟨x63, e63⟩ : ∃ x, x53.alloc (.cells #[] 51) = x := ⟨_, rfl⟩
        obtain ⟨g63, f63⟩ : ∃ x, x53.heap.size = x := ⟨_, rfl⟩
        rw [e63, f63] at R63
        rw [e63, f63]
        clear e63 f63
        have R64 := R63.alloc
        refine yR 0 R63.bel (by kernel_rfl) rfl rfl (.slice (some ⟨x63.heap.size, 0, none⟩) 0 0) (x63.alloc (.cells #[] 51)) (by kernel_rfl) ?_
        obtain ⟨x64, e64⟩ : ∃ x, x63.alloc (.cells #[] 51) = x := ⟨_, rfl⟩
        obtain ⟨g64, f64⟩ : ∃ x, x63.heap.size = x := ⟨_, rfl⟩
        rw [e64, f64] at R64
        rw [e64, f64]
        clear e64 f64
        obtain ⟨v65, x65, h65, o65, q65, b65⟩ := run_app8 (w := x64) w9.heap.size (.slice (some ⟨g64, 0, none⟩) 0 0) [] A2 32 (R64.emp g64 List.mem_cons_self) a2 M d2 (HXB.out x64 R64.bel) (by simp; omega) R64.bel.size
        have R65 := R64.app q65 o65 b65
        refine yR 3 R64.bel (by kernel_rfl) rfl rfl v65 x65 (run_apO (.tmp 80) (.tmp 82) rfl (by kernel_rfl) (by kernel_rfl) h65) ?_
        clear h65 o65 q65 b65
        obtain ⟨v66, x66, h66, o66, q66, b66⟩ := run_app8 (w := x65) w9.heap.size (.slice (some ⟨g63, 0, none⟩) 0 0) [] A3 32 (R65.emp g63 List.mem_cons_self) a3 M d3 (HXC.out x65 R65.bel) (by simp; omega) R65.bel.size
        have R66 := R65.app q66 o66 b66
        refine yR 7 R65.bel (by kernel_rfl) rfl rfl v66 x66 (run_apO (.tmp 84) (.tmp 86) rfl (by kernel_rfl) (by kernel_rfl) h66) ?_
        clear h66 o66 q66 b66
        obtain ⟨v67, x67, h67, o67, q67, b67⟩ := run_app8 (w := x66) w9.heap.size (.slice (some ⟨g53, 0, none⟩) 0 0) [] A4 32 (R66.emp g53 List.mem_cons_self) a4 l4 d4 (HXL.out x66 R66.bel) (by simp; omega) R66.bel.size
        have R67 := R66.app q67 o67 b67
        refine yR 11 R66.bel (by kernel_rfl) rfl rfl v67 x67 (run_apO (.tmp 88) (.tmp 90) rfl (by kernel_rfl) (by kernel_rfl) h67) ?_
        clear h67 o67 q67 b67
        refine yR 12 R67.bel (by kernel_rfl) rfl rfl v65 x67 (by kernel_rfl) ?_
        refine yR 13 R67.bel (by kernel_rfl) rfl rfl v66 x67 (by kernel_rfl) ?_
        refine yR 14 R67.bel (by kernel_rfl) rfl rfl v67 x67 (by kernel_rfl) ?_
        refine doneC R67.bel (by kernel_rfl) ?_ _
        refine (show ∀ a' w', Met _ a' w' → _ from by assumption) _ _ ?_
        refine Met.intro ?_
        go_step
        exact ⟨v65, v66, v67, .slice (some ⟨g64, 0, none⟩) 0 0, .pointer (some ⟨B2, 1, none⟩), .slice a2 M d2, v65, .slice (some ⟨g63, 0, none⟩) 0 0, .pointer (some ⟨B3, 1, none⟩), .slice a3 M d3, v66, .slice (some ⟨g53, 0, none⟩) 0 0, .pointer (some ⟨B4, 3, none⟩), .slice a4 l4 d4, v67, R67, by kernel_rfl⟩
  have R9 : Hid (RS w9 wc [] [(_, A4), (_, A3), (_, A2)]) := hcut
  obtain ⟨wv, rfl⟩ : ∃ x, x = wc := ⟨_, rfl⟩
  have k3 := R9.out.row (_, A4) List.mem_cons_self
  have k2 := R9.out.row (_, A3) (List.mem_cons_of_mem _ List.mem_cons_self)
  have k1 := R9.out.row (_, A2) (List.mem_cons_of_mem _ (List.mem_cons_of_mem _ List.mem_cons_self))
  simp only at k1 k2 k3
  obtain ⟨b1, q1, rfl, -, -⟩ := k1.row
  obtain ⟨b2, q2, rfl, -, -⟩ := k2.row
  obtain ⟨b3, q3, rfl, -, -⟩ := k3.row
  rw [hl2] at k1 ⊢
  rw [hl3] at k2 ⊢
  rw [hl4e] at k3 ⊢
  have HBel : Hid (Below w9.heap.size w9 wv) := R9.out.bel
  have hva : ∀ b, (Value.slice a1 M d1).ownBlock = some b → b < B1 := fun b e => by
    cases a1 with
    | none => cases e
    | some x => cases e; exact hb1 x rfl
  obtain ⟨LF, hLF⟩ : ∃ LF, [(Value.slice a2 M d2, A2), (.slice a3 M d3, A3), (.slice a4 l4 d4, A4), (.slice b1 M q1, A2), (.slice b2 M q2, A3), (.slice b3 l4 q3, A4)] = LF := ⟨_, rfl⟩
  have HLF : Hid ([(Value.slice a2 M d2, A2), (.slice a3 M d3, A3), (.slice a4 l4 d4, A4), (.slice b1 M q1, A2), (.slice b2 M q2, A3), (.slice b3 l4 q3, A4)] = LF) := hLF
  have FS0 : Hid (FS wv (.slice a1 M d1) LF) := by
    have hall : ∀ x ∈ LF, Own .i8 51 wv (B1 + 1) x.1 x.2 := fun x hx => by
      rw [← hLF] at hx
      simp only [List.mem_cons, List.not_mem_nil, or_false] at hx
      rcases hx with rfl | rfl | rfl | rfl | rfl | rfl
      · exact HP8.out.below HBel.out
      · exact HR8.out.below HBel.out
      · exact HS8.out.below HBel.out
      · exact k1.base (by omega)
      · exact k2.base (by omega)
      · exact k3.base (by omega)
    exact ⟨fun x hx => (hall x hx).base (Nat.zero_le _), fun x hx b e q => by
      have h1 := ((hall x hx).lts e).1
      have h2 := hva b q
      omega⟩
  have SV : Hid (St W wv ([(B4, #[.int .i64 (r : Int), .int .i64 (f : Int), .int .i64 (g : Int), .slice a4 l4 d4], 48), (B3, #[.int .i64 (r3 : Int), .slice a3 M d3], 34), (B2, #[.int .i64 (r2 : Int), .slice a2 M d2], 34), (B1, #[.int .i64 (r1 : Int), Value.slice a1 M d1], 34), (W.heap.size, #[.int .i64 h, .int .i64 w, .int .i64 c, .int .i64 lo, .int .i64 hi, .slice oa on oc, .int .i64 ot, .int .i64 op, .int .i64 ch, .int .i64 slo, .int .i64 shi, .int .i64 dp], 30)])) := S8.out.call HBel.out
  have OV : Hid (Own .i8 51 wv w1.heap.size (.slice a1 M d1) A1) := HO8.out.below HBel.out
  have hWb : W.heap.size ≤ w1.heap.size := by omega
  have hBB : w1.heap.size ≤ B1 ∧ B1 < B2 ∧ B2 < B3 ∧ B3 < B4 ∧ W.heap.size < B1 := by omega
  clear R9 k1 k2 k3 HXB HXC HXL HSt HBel S8 HO8 HP8 HR8 HS8 hva hLF hb1 hz1 hz2 hz2' hz3 hz4 hz5 hz6 hz7 hz8 hz9 hcut
  obtain ⟨-, -, -, -, -, -, -, -, -, c1, f1, z1, -⟩ := SV.out.rules
  go_upto_region 10 with fail
  go_wp2
  go_loopw [95] (fun ix wr => ∃ (j : Nat) (zs : List Int), j ≤ M ∧ ix = .int .i64 j ∧ zs.length = M ∧ Own .i8 51 wr w1.heap.size (.slice a1 M d1) zs ∧ St W wr ([(B4, #[.int .i64 (r : Int), .int .i64 (f : Int), .int .i64 (g : Int), .slice a4 l4 d4], 48), (B3, #[.int .i64 (r3 : Int), .slice a3 M d3], 34), (B2, #[.int .i64 (r2 : Int), .slice a2 M d2], 34), (B1, #[.int .i64 (r1 : Int), Value.slice a1 M d1], 34), (W.heap.size, #[.int .i64 h, .int .i64 w, .int .i64 c, .int .i64 lo, .int .i64 hi, .slice oa on oc, .int .i64 ot, .int .i64 op, .int .i64 ch, .int .i64 slo, .int .i64 shi, .int .i64 dp], 30)]) ∧ FS wr (.slice a1 M d1) LF) (fun i _ => M - (intOf i).toNat)
  case atStart => exact ⟨0, A1, Nat.zero_le _, rfl, HL1.out, OV.out, SV.out, FS0.out⟩
  obtain ⟨j, zs, hj, rfl, hzl, hO, hS, hF⟩ := hrel
  have OK : Hid (Own .i8 51 wr w1.heap.size (.slice a1 M d1) zs) := hO
  have SK : Hid (St W wr ([(B4, #[.int .i64 (r : Int), .int .i64 (f : Int), .int .i64 (g : Int), .slice a4 l4 d4], 48), (B3, #[.int .i64 (r3 : Int), .slice a3 M d3], 34), (B2, #[.int .i64 (r2 : Int), .slice a2 M d2], 34), (B1, #[.int .i64 (r1 : Int), Value.slice a1 M d1], 34), (W.heap.size, #[.int .i64 h, .int .i64 w, .int .i64 c, .int .i64 lo, .int .i64 hi, .slice oa on oc, .int .i64 ot, .int .i64 op, .int .i64 ch, .int .i64 slo, .int .i64 shi, .int .i64 dp], 30)])) := hS
  have FK : Hid (FS wr (.slice a1 M d1) LF) := hF
  have HZ : Hid (zs.length = M) := hzl
  clear hO hS hF hzl OV SV FS0 c1 f1 z1
  obtain ⟨-, -, -, -, -, -, -, -, -, c1, f1, z1, -⟩ := SK.out.rules
  by_cases hjM : j < M
  · rcases OK.out.shape with ⟨hn, hz0⟩ | ⟨ga, cp, hs, hg1, hg2, -, -, -, hcl, hfz⟩
    · have := HZ.out; rw [hz0] at this; simp at this; omega
    rw [HZ.out] at hs hcl
    obtain ⟨rfl, -, rfl⟩ := Value.slice.inj hs
    have hc := hcl j hjM
    have hf := hfz j
    obtain ⟨z, hz⟩ : ∃ z, zs.getD j 0 = z := ⟨_, rfl⟩
    rw [hz] at hc
    have hset := OK.out.set (i := j) (z := bits .xor .i8 z 1) (wbits_wf8 .xor z 1)
    have SN : Hid (St W (wr.setCell ⟨ga, j, none⟩ (.int .i8 (bits .xor .i8 z 1))) ([(B4, #[.int .i64 (r : Int), .int .i64 (f : Int), .int .i64 (g : Int), .slice a4 l4 d4], 48), (B3, #[.int .i64 (r3 : Int), .slice a3 M d3], 34), (B2, #[.int .i64 (r2 : Int), .slice a2 M d2], 34), (B1, #[.int .i64 (r1 : Int), Value.slice (some ⟨ga, 0, none⟩) M d1], 34), (W.heap.size, #[.int .i64 h, .int .i64 w, .int .i64 c, .int .i64 lo, .int .i64 hi, .slice oa on oc, .int .i64 ot, .int .i64 op, .int .i64 ch, .int .i64 slo, .int .i64 shi, .int .i64 dp], 30)])) := SK.out.growT OK.out hset.2 hWb (by simp)
    have FN : Hid (FS (wr.setCell ⟨ga, j, none⟩ (.int .i8 (bits .xor .i8 z 1))) (.slice (some ⟨ga, 0, none⟩) M d1) LF) := FK.out.grow hset.2 (.inl rfl)
    have ON : Hid (Own .i8 51 (wr.setCell ⟨ga, j, none⟩ (.int .i8 (bits .xor .i8 z 1))) w1.heap.size (.slice (some ⟨ga, 0, none⟩) M d1) (zs.set j (bits .xor .i8 z 1))) := hset.1
    have HZN : Hid ((zs.set j (bits .xor .i8 z 1)).length = M) := by unfold Hid; rw [List.length_set]; exact HZ.out
    clear hset hs hcl hfz hz
    go_wp2
    go_roundw
    case rel => exact ⟨j + 1, _, by omega, by go_num, HZN.out, ON.out, SN.out, FN.out⟩
    case measure => simp [intOf]; omega
  have hj9 : ¬ ((j : Int) < (M : Int)) := by omega
  clear hjM hj c1 f1 z1
  obtain ⟨w20, rfl⟩ : ∃ x, x = wr := ⟨_, rfl⟩
  go_wp2
  go_loopw [16] (fun ix wr => ∃ (n : Nat) (va : Option Addr) (cp : Nat) (zs : List Int), n ≤ 40 ∧ ix = .int .i64 n ∧ zs.length = M + n ∧ Own .i8 51 wr w1.heap.size (.slice va (M + n) cp) zs ∧ St W wr ([(B4, #[.int .i64 (r : Int), .int .i64 (f : Int), .int .i64 (g : Int), .slice a4 l4 d4], 48), (B3, #[.int .i64 (r3 : Int), .slice a3 M d3], 34), (B2, #[.int .i64 (r2 : Int), .slice a2 M d2], 34), (B1, #[.int .i64 (r1 : Int), Value.slice va (M + n) cp], 34), (W.heap.size, #[.int .i64 h, .int .i64 w, .int .i64 c, .int .i64 lo, .int .i64 hi, .slice oa on oc, .int .i64 ot, .int .i64 op, .int .i64 ch, .int .i64 slo, .int .i64 shi, .int .i64 dp], 30)]) ∧ FS wr (.slice va (M + n) cp) LF) (fun i _ => 40 - (intOf i).toNat)
  case atStart => exact ⟨0, a1, d1, zs, by omega, rfl, HZ.out, OK.out, SK.out, FK.out⟩
  obtain ⟨n, va, cp, ys, hn, rfl, hyl, hO, hS, hF⟩ := hrel
  have ON : Hid (Own .i8 51 wr w1.heap.size (.slice va (M + n) cp) ys) := hO
  have SN : Hid (St W wr ([(B4, #[.int .i64 (r : Int), .int .i64 (f : Int), .int .i64 (g : Int), .slice a4 l4 d4], 48), (B3, #[.int .i64 (r3 : Int), .slice a3 M d3], 34), (B2, #[.int .i64 (r2 : Int), .slice a2 M d2], 34), (B1, #[.int .i64 (r1 : Int), Value.slice va (M + n) cp], 34), (W.heap.size, #[.int .i64 h, .int .i64 w, .int .i64 c, .int .i64 lo, .int .i64 hi, .slice oa on oc, .int .i64 ot, .int .i64 op, .int .i64 ch, .int .i64 slo, .int .i64 shi, .int .i64 dp], 30)])) := hS
  have FN : Hid (FS wr (.slice va (M + n) cp) LF) := hF
  have HY : Hid (ys.length = M + n) := hyl
  clear hO hS hF hyl OK SK FK HZ
  by_cases hn4 : n < 40
  · have hn5 : (n : Int) < 40 := by omega
    obtain ⟨-, -, -, -, -, -, -, -, -, c1, f1, z1, -⟩ := SN.out.rules
    have bA := bal wr (.cells #[.int .i8 9] 51)
    have OA := ON.out.alloc (.cells #[.int .i8 9] 51)
    have SA := SN.out.skip (.cells #[.int .i8 9] 51)
    have FA := FN.out.bel bA
    have hI := irow_new8 wr [9] (by simp [I8]) (by simp)
    obtain ⟨v', w', h1, h2, h3, h4⟩ := run_app8 w1.heap.size (.slice va (M + n) cp) ys [9] 32 OA (some ⟨wr.heap.size, 0, none⟩) 1 1 hI (by rw [HY.out]; simp; omega) (by have h9 := lt_of_heap SN.out.tail.tail.tail.h1; simp; omega)
    have SB := SA.growT OA h3 hWb (by simp)
    have FB := FA.grow h3 h4
    obtain ⟨va', cp', rfl, -, -⟩ := h2.row
    have hl' : (ys ++ [9]).length = M + (n + 1) := by rw [List.length_append, HY.out]; rfl
    rw [hl'] at h2 h1 FB
    obtain ⟨w21, rfl⟩ : ∃ x, x = w' := ⟨_, rfl⟩
    have hc9 := SB.tail.tail.tail.h1
    have ST9 : Hid (St W w21 ([(B4, #[.int .i64 (r : Int), .int .i64 (f : Int), .int .i64 (g : Int), .slice a4 l4 d4], 48), (B3, #[.int .i64 (r3 : Int), .slice a3 M d3], 34), (B2, #[.int .i64 (r2 : Int), .slice a2 M d2], 34), (B1, #[.int .i64 (r1 : Int), Value.slice va (M + n) cp], 34), (W.heap.size, #[.int .i64 h, .int .i64 w, .int .i64 c, .int .i64 lo, .int .i64 hi, .slice oa on oc, .int .i64 ot, .int .i64 op, .int .i64 ch, .int .i64 slo, .int .i64 shi, .int .i64 dp], 30)])) := SB
    have SC : Hid (St W (w21.setCell ⟨B1, 1, none⟩ (.slice va' (M + (n + 1)) cp')) ([(B4, #[.int .i64 (r : Int), .int .i64 (f : Int), .int .i64 (g : Int), .slice a4 l4 d4], 48), (B3, #[.int .i64 (r3 : Int), .slice a3 M d3], 34), (B2, #[.int .i64 (r2 : Int), .slice a2 M d2], 34), (B1, #[.int .i64 (r1 : Int), Value.slice va' (M + (n + 1)) cp'], 34), (W.heap.size, #[.int .i64 h, .int .i64 w, .int .i64 c, .int .i64 lo, .int .i64 hi, .slice oa on oc, .int .i64 ot, .int .i64 op, .int .i64 ch, .int .i64 slo, .int .i64 shi, .int .i64 dp], 30)])) := by
      have q := (SB.up3.seti (i := 1) (v := .slice va' (M + (n + 1)) cp') (by simp; omega) #[.int .i64 (r1 : Int), .slice va' (M + (n + 1)) cp'] (by kernel_rfl))
      exact q.sub (by simp)
    have FC : Hid (FS (w21.setCell ⟨B1, 1, none⟩ (.slice va' (M + (n + 1)) cp')) (.slice va' (M + (n + 1)) cp') LF) := FB.setB hc9 (by decide)
    have OC : Hid (Own .i8 51 (w21.setCell ⟨B1, 1, none⟩ (.slice va' (M + (n + 1)) cp')) w1.heap.size (.slice va' (M + (n + 1)) cp') (ys ++ [9])) := h2.kep (grown_setB _ _ _ _) fun b e q => by
      cases q
      obtain ⟨c', e'⟩ := h2.blk e
      rw [hc9] at e'
      simp only [Option.some.injEq, Obj.cells.injEq] at e'
      exact absurd e'.2.1 (by decide)
    have HL' : Hid ((ys ++ [9]).length = M + (n + 1)) := hl'
    have H1 : Hid _ := h1
    clear h1 h2 h3 h4 OA SA FA FB SB hI bA hl' hc9
    go_upto_region 17 with (at_builtin; refine wtl1 rfl (some 113) rfl (.slice va' (M + (n + 1)) cp') w21 (run_apO (.tmp 111) (.tmp 112) rfl (by kernel_rfl) (by kernel_rfl) H1.out) ?_; clear c1 f1 z1; obtain ⟨-, -, -, -, -, -, -, -, -, c1, f1, z1, -⟩ := ST9.out.rules)
    go_wp2
    go_roundw
    case rel => exact ⟨n + 1, va', cp', _, by omega, by go_num, HL'.out, OC.out, SC.out, FC.out⟩
    case measure => simp [intOf]; omega
  obtain rfl : n = 40 := by omega
  clear hn4 hn
  have HM : Hid (∀ x ∈ [(Value.slice a2 M d2, A2), (.slice a3 M d3, A3), (.slice a4 l4 d4, A4), (.slice b1 M q1, A2), (.slice b2 M q2, A3), (.slice b3 l4 q3, A4)], Own .i8 51 wr 0 x.1 x.2) := fun x hx => FN.out.own x (HLF.out ▸ hx)
  have o1 : Hid (IRow .i8 wr a2 M d2 A2) := (HM.out (_, A2) (by simp)).irow8
  have o2 : Hid (IRow .i8 wr a3 M d3 A3) := (HM.out (_, A3) (by simp)).irow8
  have o3 : Hid (IRow .i8 wr a4 l4 d4 A4) := (HM.out (_, A4) (by simp)).irow8
  have o4 : Hid (IRow .i8 wr b1 M q1 A2) := (HM.out (.slice b1 M q1, A2) (by simp)).irow8
  have o5 : Hid (IRow .i8 wr b2 M q2 A3) := (HM.out (.slice b2 M q2, A3) (by simp)).irow8
  have o6 : Hid (IRow .i8 wr b3 l4 q3 A4) := (HM.out (.slice b3 l4 q3, A4) (by simp)).irow8
  clear HM FN ON HLF
  obtain ⟨c4, f4, z4, c3, f3, z3, c2, f2, z2, c1, f1, z1, -⟩ := SN.out.rules
  go_wp2_with fail
  refine (same8_b a2 b1 M d2 q1 A2 wr o1.out o4.out).mono ?_
  rintro e w31 ⟨rfl, hb⟩
  have S31 : Hid (St W w31 _) := SN.out.call hb
  have o2' := o2.out.below hb
  have o3' := o3.out.below hb
  have o5' := o5.out.below hb
  have o6' := o6.out.below hb
  have P2 : Hid (IRow .i8 w31 a3 M d3 A3 ∧ IRow .i8 w31 b2 M q2 A3 ∧ IRow .i8 w31 a4 l4 d4 A4 ∧ IRow .i8 w31 b3 l4 q3 A4) := ⟨o2', o5', o3', o6'⟩
  clear hb SN o1 o2 o3 o4 o5 o6 o2' o3' o5' o6' c4 f4 z4 c3 f3 z3 c2 f2 z2 c1 f1 z1
  obtain ⟨c4, f4, z4, c3, f3, z3, c2, f2, z2, c1, f1, z1, -⟩ := S31.out.rules
  go_wp2_with fail
  refine (same8_b a3 b2 M d3 q2 A3 w31 P2.out.1 P2.out.2.1).mono ?_
  rintro e w32 ⟨rfl, hb⟩
  have S32 : Hid (St W w32 _) := S31.out.call hb
  have P3 : Hid (IRow .i8 w32 a4 l4 d4 A4 ∧ IRow .i8 w32 b3 l4 q3 A4) := ⟨P2.out.2.2.1.below hb, P2.out.2.2.2.below hb⟩
  clear hb S31 P2 c4 f4 z4 c3 f3 z3 c2 f2 z2 c1 f1 z1
  obtain ⟨c4, f4, z4, c3, f3, z3, c2, f2, z2, c1, f1, z1, -⟩ := S32.out.rules
  go_wp2_with fail
  refine (same8_b a4 b3 l4 d4 q3 A4 w32 P3.out.1 P3.out.2).mono ?_
  rintro e w33 ⟨rfl, hb⟩
  have S33 : Hid (St W w33 _) := S32.out.call hb
  clear hb S32 P3 c4 f4 z4 c3 f3 z3 c2 f2 z2 c1 f1 z1
  obtain ⟨c4, f4, z4, c3, f3, z3, c2, f2, z2, c1, f1, z1, -⟩ := S33.out.rules
  have hM40 : (40 : Int) ≤ ((M + 40 : Nat) : Int) := by omega
  go_wp2
  go_ret
  refine ⟨?_, S33.out.below⟩
  exact congrArg (fun b => Ending.returned (.bool b)) (decide_eq_true (p := (40 : Int) ≤ (M : Int) + 40) (by omega))
end Go.Proofs.Ytgjcjhnnopandaa
