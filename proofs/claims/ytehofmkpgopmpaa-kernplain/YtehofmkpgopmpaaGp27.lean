/- Plans that differ in what they claim; plans of 32 bits alone (plain). The law's own model and fixed answers of layer 21. The document's Copy of layer 15: what it returns. The walk of KernWide. -/
import Derived.Test.YtehofmkpgopmpaaGp21
import Derived.Test.YtehofmkpgopmpaaGp25
import Derived.Test.YtehofmkpgopmpaaGp26
/- Plans that differ in what they claim; plans of 32 bits alone (plain). -/
namespace Go.Proofs.Ytehofmkpgopmpaa.Kr
open Go.ChangeShapes Go.WideShapes Go.ChangeAt Go.RowKit
set_option linter.unusedVariables false
/-- The same plan with another claim. -/
def cm (l u : Int) (q : Pl) : Pl := (q.1, q.2.1, l, u, l, u)
/-! ### Wide plans alone -/
/-- No sums of 16 bits. -/
def Tr.wd (t : Tr) : Prop := t.m = 0 ∧ t.a = 0 ∧ t.l = 0 ∧ t.h = 0 ∧ t.m2 = t.a2
end Go.Proofs.Ytehofmkpgopmpaa.Kr

/- The law's own model and fixed answers of layer 21. -/
namespace Go.Proofs.Ytehofmkpgopmpaa.Kr
open Go.ChangeShapes Go.WideShapes Go.ChangeAt Go.RowKit
set_option linter.unusedVariables false
def twO (_ : Nat) (j : Nat) : Int := [1, 0, 0, 1, 0, 0, 0, 0, 0, 0, 0, 0, 2, 1, 1, 9, 0, 0, 0, 0, -128, 127].getD j 0
def twZ (_ : Nat) : List Int := [200, 200]
def twB (_ : Nat) : List Int := [0]
theorem tw_0 : gtR twO 1 1 2 0 127 1 1 = (0, 0, [(1, 1, 2), (1, 1, 1)], 2) := by decide
theorem tw_lrow {w : World} {g p q : Nat} (h : w.heap[g]? = some (.cells #[.int .i64 1, .int .i64 0, .int .i64 0, .int .i64 1, .int .i64 0, .int .i64 0, .int .i64 0, .int .i64 0, .int .i64 0, .int .i64 0, .int .i64 0, .int .i64 0, .slice (some ⟨p, 0, none⟩) 2 2, .slice (some ⟨q, 0, none⟩) 1 1, .int .i64 1, .int .i64 9, .int .i64 0, .int .i64 0, .int .i64 0, .int .i64 0, .int .i64 (-128), .int .i64 127] 48 (0, 0))) (hp : w.heap[p]? = some (.cells #[.int .i16 200, .int .i16 200] 82 (0, 0))) (hq : w.heap[q]? = some (.cells #[.int .i32 0] 21 (0, 0))) : LRow w (some ⟨g, 0, none⟩) 1 1 twO twZ twB := by
  refine ⟨Nat.le_refl _, by unfold maxLen; omega, fun h => (by cases h), fun x hx i hi => ?_⟩
  cases hx
  obtain rfl : i = 0 := by omega
  refine ⟨some ⟨p, 0, none⟩, 2, 2, some ⟨q, 0, none⟩, 1, 1, rfl, rfl, fun j v hj => ?_, irow_blk [200, 200] hp (fun z hz => ?_) (by simp), irow_blk [0] hq (fun z hz => ?_) (by simp), by omega, by omega⟩
  · rw [Nat.zero_mul, Addr.add_lit, Addr.add_lit, (cells_at h).1, ← hj]
    simp [opl, twO]
  · simp only [List.mem_cons, List.not_mem_nil, or_false] at hz
    rcases hz with rfl | rfl <;> rfl
  · simp only [List.mem_cons, List.not_mem_nil, or_false] at hz
    subst hz; rfl
theorem two_any (W : World) :
    Calls Try.prog 11 #[] W fun e w' => ∃ g : Nat, e = .returned (.agg #[.int .i64 1, .int .i64 1, .int .i64 2, .int .i64 0, .int .i64 127, .slice (some ⟨g, 0, none⟩) 1 1, .int .i64 1]) ∧ LRow w' (some ⟨g, 0, none⟩) 1 1 twO twZ twB ∧ Below W.heap.size W w' := by
  go_enter Try.func11, Try.ntmps11
  go_wp2
  have s1 := (((St.start W).new (c := #[.int .i64 1, .int .i64 1, .int .i64 2, .int .i64 0, .int .i64 127, .slice (some ⟨W.heap.size + 1 + 1 + 1, 0, none⟩) 1 1, .int .i64 1]) (t := 26)).new (c := #[.int .i16 200, .int .i16 200]) (t := 82)).new (c := #[.int .i32 0]) (t := 21)
  simp only [World.size_alloc] at s1
  have s2 := s1.new (c := #[.int .i64 1, .int .i64 0, .int .i64 0, .int .i64 1, .int .i64 0, .int .i64 0, .int .i64 0, .int .i64 0, .int .i64 0, .int .i64 0, .int .i64 0, .int .i64 0, .slice (some ⟨W.heap.size + 1, 0, none⟩) 2 2, .slice (some ⟨W.heap.size + 1 + 1, 0, none⟩) 1 1, .int .i64 1, .int .i64 9, .int .i64 0, .int .i64 0, .int .i64 0, .int .i64 0, .int .i64 (-128), .int .i64 127]) (t := 48)
  simp only [World.size_alloc] at s2
  exact bodyPost_ret (v := .agg #[.int .i64 1, .int .i64 1, .int .i64 2, .int .i64 0, .int .i64 127, .slice (some ⟨W.heap.size + 1 + 1 + 1, 0, none⟩) 1 1, .int .i64 1]) (by simp [results, Try.results11, go_sem]) rfl ⟨W.heap.size + 1 + 1 + 1, rfl, tw_lrow (p := W.heap.size + 1) (q := W.heap.size + 1 + 1) s2.h1 s2.h3 s2.h2, s2.below⟩
theorem erow_one {w : World} {B : Nat} {q : Pl} (h : w.heap[B]? = some (.cells (pcs q).toArray 61 (0, 0))) : ERow 6 pcs w (some ⟨B, 0, none⟩) 1 1 [q] := by
  refine ⟨rfl, Nat.le_refl _, by unfold maxLen; omega, fun e => (by cases e), fun x hx i p hp j v hv => ?_⟩
  cases hx
  have hi : i < 1 := (List.getElem?_eq_some_iff.1 hp).1
  obtain rfl : i = 0 := by omega
  simp only [List.getElem?_cons_zero, Option.some.injEq] at hp
  subst hp
  rw [Nat.zero_mul, Addr.add_lit, Addr.add_lit, (cells_at h).1]
  simpa using hv
theorem fx_e1 : oLn twO [(1, 1, 2), (1, 1, 1)] 0 2 1 0 [(16, 1, 0, 0, 0, 0)] = (0, 0, 0) := by decide
theorem fx_e2 : oLn twO [(1, 1, 2), (1, 1, 1)] 0 2 1 0 [(16, 2, 0, 0, 0, 0)] = (0, 0, 0) := by decide
theorem fx_e3 : oLn twO [(1, 1, 2), (1, 1, 1)] 0 2 0 0 [] = (70, 1, 0) := by decide
theorem fx_n1 : oNm (twO 0) (([(1, 1, 2), (1, 1, 1)] : List (Int × Int × Int)).getD (twO 0 1).toNat (0, 0, 0)) (([(1, 1, 2), (1, 1, 1)] : List (Int × Int × Int)).getD (0 + 1) (0, 0, 0)) (twZ 0) (twB 0) [127, 127] [] [(16, 1, 0, 0, 0, 0)] = [99] := by kernel_rfl
theorem fx_n2 : oNm (twO 0) (([(1, 1, 2), (1, 1, 1)] : List (Int × Int × Int)).getD (twO 0 1).toNat (0, 0, 0)) (([(1, 1, 2), (1, 1, 1)] : List (Int × Int × Int)).getD (0 + 1) (0, 0, 0)) (twZ 0) (twB 0) [127, 127] [] [(16, 2, 0, 0, 0, 0)] = [-29] := by kernel_rfl
theorem fx_t1 : (oTk (twO 0) (([(1, 1, 2), (1, 1, 1)] : List (Int × Int × Int)).getD (twO 0 1).toNat (0, 0, 0)) (([(1, 1, 2), (1, 1, 1)] : List (Int × Int × Int)).getD (0 + 1) (0, 0, 0)) (twZ 0) (twB 0) [127, 127] [(16, 1, 0, 0, 0, 0)]).cs = #[.int .i64 2, .int .i64 2, .int .i64 0, .int .i64 2, .int .i64 0, .int .i64 25400, .int .i64 25400, .int .i64 25400, .int .i64 50800] := by kernel_rfl
theorem fx_t2 : (oTk (twO 0) (([(1, 1, 2), (1, 1, 1)] : List (Int × Int × Int)).getD (twO 0 1).toNat (0, 0, 0)) (([(1, 1, 2), (1, 1, 1)] : List (Int × Int × Int)).getD (0 + 1) (0, 0, 0)) (twZ 0) (twB 0) [127, 127] [(16, 2, 0, 0, 0, 0)]).cs = #[.int .i64 2, .int .i64 2, .int .i64 0, .int .i64 1, .int .i64 1, .int .i64 (-14736), .int .i64 25400, .int .i64 (-14736), .int .i64 (-14736)] := by kernel_rfl
theorem op_fx1 (w : World) (g : Nat) (hL : LRow w (some ⟨g, 0, none⟩) 1 1 twO twZ twB) (B D : Nat) (hb : w.heap[B]? = some (.cells #[.int .i64 16, .int .i64 1, .int .i64 0, .int .i64 0, .int .i64 0, .int .i64 0] 61 (0, 0))) (hd : w.heap[D]? = some (.cells #[.int .i8 127, .int .i8 127] 63 (0, 0))) :
    Calls Try.prog 8 #[.agg #[.int .i64 1, .int .i64 1, .int .i64 2, .int .i64 0, .int .i64 127, .slice (some ⟨g, 0, none⟩) 1 1, .int .i64 1], .int .i64 1, .slice (some ⟨B, 0, none⟩) 1 1, .slice (some ⟨D, 0, none⟩) 2 2, .slice none 0 0] w fun e w' => (∃ v, e = .returned (.tuple #[v, .agg #[.int .i64 2, .int .i64 2, .int .i64 0, .int .i64 2, .int .i64 0, .int .i64 25400, .int .i64 25400, .int .i64 25400, .int .i64 50800], .agg #[.int .i64 0, .int .i64 0, .int .i64 0]]) ∧ Own .i8 63 w' w.heap.size v [99]) ∧ Below w.heap.size w w' := by
  refine (op_i 1 1 2 0 127 1 (some ⟨g, 0, none⟩) 1 1 twO twZ twB w hL 1 _ 1 1 [(16, 1, 0, 0, 0, 0)] _ 2 2 [127, 127] none 0 0 [] (erow_one hb) (irow_blk [127, 127] hd (fun z hz => ?_) (by simp)) (irow_nil _ _) _ _ tw_0 0 (by omega) rfl 0 0 0 fx_e1).mono ?_
  · simp only [List.mem_cons, List.not_mem_nil, or_false] at hz
    rcases hz with rfl | rfl <;> rfl
  · rintro e w' ⟨⟨v, T, rfl, h⟩, hb2⟩
    rcases h with ⟨h0, -⟩ | ⟨-, hO, rfl⟩
    · exact absurd rfl h0
    · rw [fx_n1] at hO
      rw [fx_t1]
      exact ⟨⟨v, rfl, hO⟩, hb2⟩
theorem op_fx2 (w : World) (g : Nat) (hL : LRow w (some ⟨g, 0, none⟩) 1 1 twO twZ twB) (B D : Nat) (hb : w.heap[B]? = some (.cells #[.int .i64 16, .int .i64 2, .int .i64 0, .int .i64 0, .int .i64 0, .int .i64 0] 61 (0, 0))) (hd : w.heap[D]? = some (.cells #[.int .i8 127, .int .i8 127] 63 (0, 0))) :
    Calls Try.prog 8 #[.agg #[.int .i64 1, .int .i64 1, .int .i64 2, .int .i64 0, .int .i64 127, .slice (some ⟨g, 0, none⟩) 1 1, .int .i64 1], .int .i64 1, .slice (some ⟨B, 0, none⟩) 1 1, .slice (some ⟨D, 0, none⟩) 2 2, .slice none 0 0] w fun e w' => (∃ v, e = .returned (.tuple #[v, .agg #[.int .i64 2, .int .i64 2, .int .i64 0, .int .i64 1, .int .i64 1, .int .i64 (-14736), .int .i64 25400, .int .i64 (-14736), .int .i64 (-14736)], .agg #[.int .i64 0, .int .i64 0, .int .i64 0]]) ∧ Own .i8 63 w' w.heap.size v [-29]) ∧ Below w.heap.size w w' := by
  refine (op_i 1 1 2 0 127 1 (some ⟨g, 0, none⟩) 1 1 twO twZ twB w hL 1 _ 1 1 [(16, 2, 0, 0, 0, 0)] _ 2 2 [127, 127] none 0 0 [] (erow_one hb) (irow_blk [127, 127] hd (fun z hz => ?_) (by simp)) (irow_nil _ _) _ _ tw_0 0 (by omega) rfl 0 0 0 fx_e2).mono ?_
  · simp only [List.mem_cons, List.not_mem_nil, or_false] at hz
    rcases hz with rfl | rfl <;> rfl
  · rintro e w' ⟨⟨v, T, rfl, h⟩, hb2⟩
    rcases h with ⟨h0, -⟩ | ⟨-, hO, rfl⟩
    · exact absurd rfl h0
    · rw [fx_n2] at hO
      rw [fx_t2]
      exact ⟨⟨v, rfl, hO⟩, hb2⟩
theorem op_fx3 (w : World) (g : Nat) (hL : LRow w (some ⟨g, 0, none⟩) 1 1 twO twZ twB) (D : Nat) (hd : w.heap[D]? = some (.cells #[.int .i8 127, .int .i8 127] 63 (0, 0))) :
    Calls Try.prog 8 #[.agg #[.int .i64 1, .int .i64 1, .int .i64 2, .int .i64 0, .int .i64 127, .slice (some ⟨g, 0, none⟩) 1 1, .int .i64 1], .int .i64 1, .slice none 0 0, .slice (some ⟨D, 0, none⟩) 2 2, .slice none 0 0] w fun e w' => e = .returned (.tuple #[.slice none 0 0, .agg #[.int .i64 0, .int .i64 0, .int .i64 0, .int .i64 0, .int .i64 0, .int .i64 0, .int .i64 0, .int .i64 0, .int .i64 0], .agg #[.int .i64 70, .int .i64 1, .int .i64 0]]) ∧ Below w.heap.size w w' := by
  refine (op_i 1 1 2 0 127 1 (some ⟨g, 0, none⟩) 1 1 twO twZ twB w hL 1 _ 0 0 [] _ 2 2 [127, 127] none 0 0 [] (erow_nil _ _ _) (irow_blk [127, 127] hd (fun z hz => ?_) (by simp)) (irow_nil _ _) _ _ tw_0 0 (by omega) rfl 70 1 0 fx_e3).mono ?_
  · simp only [List.mem_cons, List.not_mem_nil, or_false] at hz
    rcases hz with rfl | rfl <;> rfl
  · rintro e w' ⟨⟨v, T, rfl, h⟩, hb2⟩
    rcases h with ⟨-, rfl, rfl⟩ | ⟨h0, -⟩
    · exact ⟨rfl, hb2⟩
    · cases h0
set_option maxHeartbeats 4000000 in
set_option maxRecDepth 100000 in
theorem fixed_any (W : World) : Calls Try.prog 6 #[] W fun e w' => e = .returned (.bool true) ∧ Below W.heap.size W w' := by
  have HF1 : Hid (∀ w g hL B D hb hd, _) := op_fx1
  have HF2 : Hid (∀ w g hL B D hb hd, _) := op_fx2
  have HF3 : Hid (∀ w g hL D hd, _) := op_fx3
  have HTW : Hid (∀ W, _) := two_any
  go_enter Try.func6, Try.ntmps6
  go_wp2_with fail
  refine (HTW.out _).mono ?_
  rintro e w1 ⟨g, rfl, hL, b1⟩
  have s1 := (((St.start W).call b1).new (c := #[.int .i64 16, .int .i64 1, .int .i64 0, .int .i64 0, .int .i64 0, .int .i64 0]) (t := 61)).new (c := #[.int .i8 127, .int .i8 127]) (t := 63)
  simp only [World.size_alloc] at s1
  have L1 : Hid (LRow ((w1.alloc (.cells #[.int .i64 16, .int .i64 1, .int .i64 0, .int .i64 0, .int .i64 0, .int .i64 0] 61)).alloc (.cells #[.int .i8 127, .int .i8 127] 63)) (some ⟨g, 0, none⟩) 1 1 twO twZ twB) := (hL.below (bal _ _)).below (bal _ _)
  have S1 : Hid (St W _ _) := s1
  clear s1 hL b1
  go_wp2_with fail
  refine (HF1.out _ g L1.out (w1.heap.size) (w1.heap.size + 1) S1.out.h2 S1.out.h1).mono ?_
  rintro e w2 ⟨⟨v, rfl, hO⟩, b2⟩
  obtain ⟨va, vc, rfl, hrow, -⟩ := hO.row
  obtain ⟨xa, u, rfl, hu, -, huz, -⟩ := hrow.at (show 0 < [(99 : Int)].length by decide)
  simp only [List.getElem?_cons_zero, Option.some.injEq] at huz
  subst huz
  have s2 := (((S1.out.call b2).sub (l' := []) (by simp)).new (c := #[.int .i64 2, .int .i64 2, .int .i64 0, .int .i64 2, .int .i64 0, .int .i64 25400, .int .i64 25400, .int .i64 25400, .int .i64 50800]) (t := 50)).new (c := #[.int .i64 0, .int .i64 0, .int .i64 0]) (t := 38)
  simp only [World.size_alloc] at s2
  have hc2 : ((w2.alloc (.cells #[.int .i64 2, .int .i64 2, .int .i64 0, .int .i64 2, .int .i64 0, .int .i64 25400, .int .i64 25400, .int .i64 25400, .int .i64 50800] 50)).alloc (.cells #[.int .i64 0, .int .i64 0, .int .i64 0] 38)).cell? xa = some (.int .i8 99) := by
    have h0 : w2.cell? xa = some (.int .i8 99) := by rwa [Addr.add_zero'] at hu
    exact ((bt (bal w2 _) (bal _ _)).cell (World.block_lt_of_cell? w2 _ h0)).trans h0
  clear hO hrow hu b2 L1 S1
  go_upto_region 2 with fail
  obtain ⟨t1, ht1⟩ : ∃ t1, w2.heap.size = t1 := ⟨_, rfl⟩
  obtain ⟨w3, hw3⟩ : ∃ w3, (w2.alloc (.cells #[.int .i64 2, .int .i64 2, .int .i64 0, .int .i64 2, .int .i64 0, .int .i64 25400, .int .i64 25400, .int .i64 25400, .int .i64 50800] 50)).alloc (.cells #[.int .i64 0, .int .i64 0, .int .i64 0] 38) = w3 := ⟨_, rfl⟩
  rw [hw3, ht1] at s2
  rw [hw3] at hc2
  rw [hw3, ht1]
  have S3 : Hid (St W w3 [(t1 + 1, #[.int .i64 0, .int .i64 0, .int .i64 0], 38), (t1, #[.int .i64 2, .int .i64 2, .int .i64 0, .int .i64 2, .int .i64 0, .int .i64 25400, .int .i64 25400, .int .i64 25400, .int .i64 50800], 50)]) := s2
  have C3 : Hid (w3.cell? xa = some (.int .i8 99)) := hc2
  clear hw3 ht1 s2 hc2
  go_wp2_with fail
  refine (HTW.out _).mono ?_
  rintro e w4 ⟨g4, rfl, hL, b4⟩
  have s4 := ((S3.out.call b4).new (c := #[.int .i64 16, .int .i64 2, .int .i64 0, .int .i64 0, .int .i64 0, .int .i64 0]) (t := 61)).new (c := #[.int .i8 127, .int .i8 127]) (t := 63)
  simp only [World.size_alloc] at s4
  have L4 : Hid (LRow ((w4.alloc (.cells #[.int .i64 16, .int .i64 2, .int .i64 0, .int .i64 0, .int .i64 0, .int .i64 0] 61)).alloc (.cells #[.int .i8 127, .int .i8 127] 63)) (some ⟨g4, 0, none⟩) 1 1 twO twZ twB) := (hL.below (bal _ _)).below (bal _ _)
  have S4 : Hid (St W _ _) := s4
  have C4 : Hid (((w4.alloc (.cells #[.int .i64 16, .int .i64 2, .int .i64 0, .int .i64 0, .int .i64 0, .int .i64 0] 61)).alloc (.cells #[.int .i8 127, .int .i8 127] 63)).cell? xa = some (.int .i8 99)) := ((bt b4 (bt (bal w4 _) (bal _ _))).cell (World.block_lt_of_cell? w3 _ C3.out)).trans C3.out
  clear s4 hL b4 S3 C3
  go_wp2_with fail
  refine (HF2.out _ g4 L4.out (w4.heap.size) (w4.heap.size + 1) S4.out.h2 S4.out.h1).mono ?_
  rintro e w5 ⟨⟨v, rfl, hO⟩, b5⟩
  obtain ⟨vb, vd, rfl, hrow, -⟩ := hO.row
  obtain ⟨xb, u, rfl, hu, -, huz, -⟩ := hrow.at (show 0 < [(-29 : Int)].length by decide)
  simp only [List.getElem?_cons_zero, Option.some.injEq] at huz
  subst huz
  have s5 := (((S4.out.call b5).sub (l' := [(t1 + 1, #[.int .i64 0, .int .i64 0, .int .i64 0], 38), (t1, #[.int .i64 2, .int .i64 2, .int .i64 0, .int .i64 2, .int .i64 0, .int .i64 25400, .int .i64 25400, .int .i64 25400, .int .i64 50800], 50)]) (by simp)).new (c := #[.int .i64 2, .int .i64 2, .int .i64 0, .int .i64 1, .int .i64 1, .int .i64 (-14736), .int .i64 25400, .int .i64 (-14736), .int .i64 (-14736)]) (t := 50)).new (c := #[.int .i64 0, .int .i64 0, .int .i64 0]) (t := 38)
  simp only [World.size_alloc] at s5
  have bw : Below w5.heap.size w5 ((w5.alloc (.cells #[.int .i64 2, .int .i64 2, .int .i64 0, .int .i64 1, .int .i64 1, .int .i64 (-14736), .int .i64 25400, .int .i64 (-14736), .int .i64 (-14736)] 50)).alloc (.cells #[.int .i64 0, .int .i64 0, .int .i64 0] 38)) := bt (bal w5 _) (bal _ _)
  have hb5 : ((w5.alloc (.cells #[.int .i64 2, .int .i64 2, .int .i64 0, .int .i64 1, .int .i64 1, .int .i64 (-14736), .int .i64 25400, .int .i64 (-14736), .int .i64 (-14736)] 50)).alloc (.cells #[.int .i64 0, .int .i64 0, .int .i64 0] 38)).cell? xb = some (.int .i8 (-29)) := by
    have h0 : w5.cell? xb = some (.int .i8 (-29)) := by rwa [Addr.add_zero'] at hu
    exact (bw.cell (World.block_lt_of_cell? w5 _ h0)).trans h0
  have hc5 : ((w5.alloc (.cells #[.int .i64 2, .int .i64 2, .int .i64 0, .int .i64 1, .int .i64 1, .int .i64 (-14736), .int .i64 25400, .int .i64 (-14736), .int .i64 (-14736)] 50)).alloc (.cells #[.int .i64 0, .int .i64 0, .int .i64 0] 38)).cell? xa = some (.int .i8 99) := ((bt b5 bw).cell (World.block_lt_of_cell? _ _ C4.out)).trans C4.out
  clear hO hrow hu b5 L4 S4 C4 bw
  go_upto_region 3 with fail
  obtain ⟨t2, ht2⟩ : ∃ t2, w5.heap.size = t2 := ⟨_, rfl⟩
  obtain ⟨w6, hw6⟩ : ∃ w6, (w5.alloc (.cells #[.int .i64 2, .int .i64 2, .int .i64 0, .int .i64 1, .int .i64 1, .int .i64 (-14736), .int .i64 25400, .int .i64 (-14736), .int .i64 (-14736)] 50)).alloc (.cells #[.int .i64 0, .int .i64 0, .int .i64 0] 38) = w6 := ⟨_, rfl⟩
  rw [hw6, ht2] at s5
  rw [hw6] at hb5 hc5
  rw [hw6, ht2]
  have S6 : Hid (St W w6 [(t2 + 1, #[.int .i64 0, .int .i64 0, .int .i64 0], 38), (t2, #[.int .i64 2, .int .i64 2, .int .i64 0, .int .i64 1, .int .i64 1, .int .i64 (-14736), .int .i64 25400, .int .i64 (-14736), .int .i64 (-14736)], 50), (t1 + 1, #[.int .i64 0, .int .i64 0, .int .i64 0], 38), (t1, #[.int .i64 2, .int .i64 2, .int .i64 0, .int .i64 2, .int .i64 0, .int .i64 25400, .int .i64 25400, .int .i64 25400, .int .i64 50800], 50)]) := s5
  have C6 : Hid (w6.cell? xa = some (.int .i8 99)) := hc5
  have B6 : Hid (w6.cell? xb = some (.int .i8 (-29))) := hb5
  clear hw6 ht2 s5 hc5 hb5
  go_wp2_with fail
  refine (HTW.out _).mono ?_
  rintro e w7 ⟨g7, rfl, hL, b7⟩
  have L7 : Hid (LRow (w7.alloc (.cells #[.int .i8 127, .int .i8 127] 63)) (some ⟨g7, 0, none⟩) 1 1 twO twZ twB) := hL.below (bal _ _)
  have S7 : Hid (St W w7 _) := S6.out.call b7
  have hb67 := b7
  clear hL b7
  go_wp2_with fail
  refine (HF3.out _ g7 L7.out (w7.heap.size) (heap_alloc_new w7 _)).mono ?_
  rintro e w8 ⟨rfl, b8⟩
  have bw : Below w6.heap.size w6 ((w8.alloc (.cells #[.int .i64 0, .int .i64 0, .int .i64 0, .int .i64 0, .int .i64 0, .int .i64 0, .int .i64 0, .int .i64 0, .int .i64 0] 50)).alloc (.cells #[.int .i64 70, .int .i64 1, .int .i64 0] 38)) := bt hb67 (bt (bal w7 (.cells #[.int .i8 127, .int .i8 127] 63)) (bt b8 (bt (bal w8 _) (bal _ _))))
  have s9 := S6.out.call bw
  have hn9 := heap_alloc_new (w8.alloc (.cells #[.int .i64 0, .int .i64 0, .int .i64 0, .int .i64 0, .int .i64 0, .int .i64 0, .int .i64 0, .int .i64 0, .int .i64 0] 50)) (.cells #[.int .i64 70, .int .i64 1, .int .i64 0] 38)
  simp only [World.size_alloc] at hn9
  have hc9 := (bw.cell (World.block_lt_of_cell? _ _ C6.out)).trans C6.out
  have hb9 := (bw.cell (World.block_lt_of_cell? _ _ B6.out)).trans B6.out
  clear b8 hb67 L7 S7 S6 C6 B6 bw
  go_upto_region 4 with fail
  obtain ⟨t3, ht3⟩ : ∃ t3, w8.heap.size = t3 := ⟨_, rfl⟩
  obtain ⟨w9, hw9⟩ : ∃ w9, (w8.alloc (.cells #[.int .i64 0, .int .i64 0, .int .i64 0, .int .i64 0, .int .i64 0, .int .i64 0, .int .i64 0, .int .i64 0, .int .i64 0] 50)).alloc (.cells #[.int .i64 70, .int .i64 1, .int .i64 0] 38) = w9 := ⟨_, rfl⟩
  rw [hw9] at s9 hc9 hb9
  rw [hw9, ht3] at hn9
  rw [hw9, ht3]
  clear hw9 ht3
  have D9 : Hid (Below W.heap.size W w9) := s9.below
  obtain ⟨q1, g1, y1, q2, g2, y2, q3, g3, y3, q4, g4', y4, -⟩ := s9.rules
  obtain ⟨q5, g5, y5⟩ := cells_at hn9
  have e1 := eqFt 0 0 0 0 0 0 true (by decide)
  have e2 := eqFt 70 1 0 70 1 0 true (by decide)
  clear s9 hn9
  go_wp2
  go_ret
  exact ⟨rfl, D9.out⟩
end Go.Proofs.Ytehofmkpgopmpaa.Kr

/- The document's Copy of layer 15: what it returns. -/
namespace Go.Proofs.Ytehofmkpgopmpaa
open Go.ChangeShapes Go.WideShapes Go.ChangeAt Go.RowKit
set_option linter.unusedVariables false
/-- Copied plans: a list of lists, each owned, each in a block of its own. -/
def QOwn (w : World) (base : Nat) (v : Value) (P : List (List Pl)) : Prop :=
  ∃ f : Nat → Value, w.ownsRow base 53 1 v P.length ((List.range P.length).map f) ∧ (∀ i l, P[i]? = some l → w.ownsRow base 61 6 (f i) l.length (l.flatMap pcs) ∧ l.length * 48 ≤ 140737488351232) ∧
    ∀ i j, i < j → j < P.length → ∀ b b', (f i).ownBlock = some b → (f j).ownBlock = some b' → b < b'
end Go.Proofs.Ytehofmkpgopmpaa

/- The walk of KernWide. -/
namespace Go.Proofs.Ytehofmkpgopmpaa.Kr
open Go.ChangeShapes Go.WideShapes Go.ChangeAt Go.RowKit
set_option linter.unusedVariables false
def PlIn (cs : List Value) : Prop :=
  ∃ (b0 : Int) (b1 : Int) (b2 : Int) (b3 : Int) (b4 : Int) (b5 : Int), cs = [.int .i64 b0, .int .i64 b1, .int .i64 b2, .int .i64 b3, .int .i64 b4, .int .i64 b5] ∧ (Lit.int .i64 b0).wf = true ∧ (Lit.int .i64 b1).wf = true ∧ (Lit.int .i64 b2).wf = true ∧ (Lit.int .i64 b3).wf = true ∧ (Lit.int .i64 b4).wf = true ∧ (Lit.int .i64 b5).wf = true
theorem chans_of {w : World} {a : Option Addr} {n c : Nat} (h : ORow 6 PlIn w a n c) : ∃ R, ERow 6 pcs w a n c R := by
  obtain ⟨h1, h2, h3, h4⟩ := h
  cases a with
  | none =>
    have := h3 rfl
    obtain rfl : n = 0 := by omega
    exact ⟨[], ⟨rfl, by omega, h2, h3, fun x hx => by cases hx⟩⟩
  | some x =>
    have q : ∀ i, ∃ p : Pl, (i < n → ∀ j v, (pcs p)[j]? = some v → w.cell? ((x.add (i * 6)).add j) = some v) := by
      intro i
      by_cases hi : i < n
      · obtain ⟨cs, -, ⟨b0, b1, b2, b3, b4, b5, rfl, -⟩, g⟩ := h4 x rfl i hi
        refine ⟨(b0, b1, b2, b3, b4, b5), fun _ j v hv => ?_⟩
        have hj : j < 6 := (List.getElem?_eq_some_iff.1 hv).1
        rw [Addr.add_add, g j hj]
        exact hv
      · exact ⟨(0, 0, 0, 0, 0, 0), fun q => absurd q hi⟩
    refine ⟨(List.range n).map fun i => Classical.choose (q i), by simp, h1, h2, h3, fun y hy i p hp j v hv => ?_⟩
    cases hy
    have hi : i < n := by simpa using (List.getElem?_eq_some_iff.1 hp).1
    rw [List.getElem?_map, List.getElem?_range hi] at hp
    simp only [Option.map_some, Option.some.injEq] at hp
    subst hp
    exact Classical.choose_spec (q i) hi j v hv
theorem eqTr (a1 a2 a3 a4 a5 a6 a7 a8 a9 : Int) : ∀ W, (binOp .eql 50 (.agg #[.int .i64 a1, .int .i64 a2, .int .i64 a3, .int .i64 a4, .int .i64 a5, .int .i64 a6, .int .i64 a7, .int .i64 a8, .int .i64 a9]) (.agg #[.int .i64 a1, .int .i64 a2, .int .i64 a3, .int .i64 a4, .int .i64 a5, .int .i64 a6, .int .i64 a7, .int .i64 a8, .int .i64 a9])).run Try.prog W = .ok (.bool true) W := by
  intro W; simp [go_sem]
end Go.Proofs.Ytehofmkpgopmpaa.Kr
