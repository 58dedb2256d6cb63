/- The first ops of a model, appended to none: one law. The walk of PlainFronts. What the document's own functions of an op return: Length, Positions, weight, Bias. -/
import Derived.Test.YtdknofbnhjdfjaaGr15
import Derived.Test.YtdknofbnhjdfjaaGr18
import Derived.Test.YtdknofbnhjdfjaaGr24
import Derived.Test.YtdknofbnhjdfjaaGr28
/- The first ops of a model, appended to none: one law. -/
namespace Go.Proofs.Ytdknofbnhjdfjaa
open Go.ChangeShapes Go.WideShapes Go.ChangeAt Go.RowKit
set_option linter.unusedVariables false
theorem lrow_copy2 {w1 w w' : World} {x : Addr} {on oc k base : Nat} {v : Value} {O : Nat → Nat → Int} {Z B : Nat → List Int} (h : LRow w1 (some x) on oc O Z B) (hb : Below w1.heap.size w1 w) (hk : k ≤ on) (hown : w'.ownsRow base 39 22 v k (mc w x (k * 22))) (hv : v ≠ .slice none 0 0) :
    ∃ g cap cur, v = .slice (some ⟨g, 0, none⟩) k cap ∧ base ≤ g ∧ w'.heap[g]? = some (.cells cur 39 (0, 0)) ∧ ∀ w'' : World, Below w1.heap.size w1 w'' → w''.heap[g]? = w'.heap[g]? → LRow w'' (some ⟨g, 0, none⟩) k cap O Z B := by
  rcases hown.2 with ⟨h0, -⟩ | ⟨g, cap, cur, h1, h2, h3, h4, h5, h6, h7⟩
  · exact absurd h0 hv
  · refine ⟨g, cap, cur, h1, h2, h3, fun w'' hb2 hg2 => ⟨h4, h5, fun q => (by cases q), fun y hy i hi => ?_⟩⟩
    cases hy
    obtain ⟨wa, lw, cw, ba, lb, cb, e1, e2, e3, e4, e5, e6, e7⟩ := h.2.2.2 x rfl i (by omega)
    refine ⟨wa, lw, cw, ba, lb, cb, e1, e2, fun j u hj => ?_, e4.below hb2, e5.below hb2, e6, e7⟩
    have hj' : j < 22 := (List.getElem?_eq_some_iff.1 hj).1
    refine (World.cell?_of_block (w := w') (by rw [add_block, add_block]; exact hg2)).trans ?_
    rw [Addr.add_add]
    have e3' := e3 j u hj
    refine hown.cells (by rw [h1]; rfl) _ _ (mc_at (by omega) ?_)
    rw [← Addr.add_add]
    exact (hb.cell (World.block_lt_of_cell? w1 _ e3')).trans e3'
theorem wpList_front {ops : Array Oper} {rest : List Oper} {o : Oper} {a : Act} {Q : Exit → Act → World → Prop} {w : World} (hgd : o.guard = none) (s x : Operand) (ho : o.op = .call { callee := .builtin .append, args := #[s, x], argTypes := #[24, 24] })
    (b : Nat) (hs : a.eval s = .slice (some ⟨b, 0, none⟩) 0 0) (hb : w.heap[b]? = some (.cells #[] 39 (0, 0))) (w1 : World) (hB : Below w1.heap.size w1 w) (hb1 : w1.heap.size ≤ b) (w2 : World) (hB2 : Below w2.heap.size w2 w) (hb2 : w2.heap.size ≤ b) (oa : Option Addr) (on oc k : Nat) (O : Nat → Nat → Int) (Z B : Nat → List Int) (hL1 : LRow w1 oa on oc O Z B) (hk : k ≤ on) (h64 : on ≤ 64) (hx : a.eval x = .slice oa k oc)
    (h : ∀ (g cap : Nat) (w' : World) (cur : Array Value), w1.heap.size ≤ g → w'.heap[g]? = some (.cells cur 39 (0, 0)) → (∀ w'' : World, Below w1.heap.size w1 w'' → w''.heap[g]? = w'.heap[g]? → LRow w'' (some ⟨g, 0, none⟩) k cap O Z B) → Below w1.heap.size w1 w' → Below w2.heap.size w2 w' → wpList Try.prog ops Q rest (a.put o.dst (.slice (some ⟨g, 0, none⟩) k cap)) w') : wpList Try.prog ops Q (o :: rest) a w := by
  obtain ⟨i0, hi0, hz0, hz1, hz2⟩ := info_parts (show (Try.prog.info? 39).map (fun i => (i.zero, i.size, i.bytes)) = some (some (.agg #[.int .i64 0, .int .i64 0, .int .i64 0, .int .i64 0, .int .i64 0, .int .i64 0, .int .i64 0, .int .i64 0, .int .i64 0, .int .i64 0, .int .i64 0, .int .i64 0, .slice none 0 0, .slice none 0 0, .int .i64 0, .int .i64 0, .int .i64 0, .int .i64 0, .int .i64 0, .int .i64 0, .int .i64 0, .int .i64 0]), 22, 208) by kernel_rfl)
  have hown0 : w.ownsRow w1.heap.size 39 22 (.slice (some ⟨b, 0, none⟩) 0 0) 0 [] := ⟨rfl, .inr ⟨b, 0, #[], rfl, hb1, hb, Nat.le_refl _, by unfold maxLen; omega, rfl, rfl⟩⟩
  have hL := hL1.below hB
  have hocc := hL.1
  have hocm := hL.2.1
  cases oa with
  | none =>
    obtain rfl : oc = 0 := hL.2.2.1 rfl
    obtain rfl : on = 0 := by omega
    obtain rfl : k = 0 := by omega
    refine wpList_append_own_none hgd s x 24 ho w1.heap.size 39 i0 22 Try.underlying24 hi0 _ 0 [] hs hown0 hx ?_
    exact h b 0 w #[] hb1 hb (fun w'' _ _ => ⟨Nat.le_refl _, by unfold maxLen; omega, fun q => (by cases q), fun y hy i hi => by omega⟩) hB hB2
  | some y =>
    refine wpList_append_own _ hgd s x 24 ho w1.heap.size 39 i0 _ 22 208 Try.underlying24 hi0 hz0 hz1 hz2 rfl (by decide) (.slice (some ⟨b, 0, none⟩) 0 0) 0 [] hs hown0 y k oc (mc _ y (k * 22)) hx (mc_len _ _ _) (mc_of hL.m hk).1 (mc_of hL.m hk).2 (by unfold maxLen; omega) (by omega) hB.size ?_
    intro v' w3 hown hgr hnn
    rw [Nat.zero_add, List.nil_append] at hown
    obtain ⟨g, cap, cur, rfl, hgb, hgc, hM3⟩ := lrow_copy2 hL1 hB hk hown (fun e => by have := (hnn.1 e).1; cases this)
    exact h g cap w3 cur hgb hgc hM3 (hB.grown hgr hB.size (fun q e => by simp [Value.ownBlock] at e; omega)) (hB2.grown hgr hB2.size (fun q e => by simp [Value.ownBlock] at e; omega))
end Go.Proofs.Ytdknofbnhjdfjaa

/- The walk of PlainFronts. -/
namespace Go.Proofs.Ytdknofbnhjdfjaa
open Go.ChangeShapes Go.WideShapes Go.ChangeAt Go.RowKit
set_option linter.unusedVariables false
set_option maxHeartbeats 4000000 in
theorem fronts11_bad (h w c lo hi ot : Int) (oa : Option Addr) (on oc : Nat) (W : World) (ad : Option Addr) (n cap : Nat) (k0 : Int) (E A : Int) (he : E ≠ 0) (hT : Hid (∀ W', Below W.heap.size W W' → Calls Try.prog 10 #[.agg #[.int .i64 h, .int .i64 w, .int .i64 c, .int .i64 lo, .int .i64 hi, .slice oa on oc, .int .i64 ot], .slice ad n cap] W' fun e w' => e = .returned (.tuple #[.slice none 0 0, .agg #[.int .i64 E, .int .i64 A, .int .i64 0]]) ∧ Below W'.heap.size W' w')) :
    Calls Try.prog 5 #[.agg #[.int .i64 h, .int .i64 w, .int .i64 c, .int .i64 lo, .int .i64 hi, .slice oa on oc, .int .i64 ot], .slice ad n cap, .int .i64 k0] W fun e w' => e = .returned (.bool true) ∧ Below W.heap.size W w' := by
  have he' : (E == 0) = false := by simp [he]
  have s0 := (St.start W).new (c := #[.int .i64 h, .int .i64 w, .int .i64 c, .int .i64 lo, .int .i64 hi, .slice oa on oc, .int .i64 ot]) (t := 26)
  go_enter Try.func5, Try.ntmps5
  go_wp2_with fail
  refine (fixed11_any _).mono ?_
  rintro e w1 ⟨rfl, hb⟩
  have s1 := s0.call hb
  obtain ⟨c1, f1, z1, -⟩ := s1.rules
  clear hb
  go_wp2_with fail
  refine Calls.mono (hT.out _ s1.below) ?_
  rintro e w2 ⟨rfl, hb⟩
  have s2 := (s1.call hb).new (c := #[.int .i64 E, .int .i64 A, .int .i64 0]) (t := 51)
  have HB : Hid (Below W.heap.size W _) := s2.below
  clear hb hT s0 s1 c1 f1 z1 s2
  go_wp2
  go_ret
  exact ⟨rfl, HB.out⟩
set_option maxHeartbeats 8000000 in
set_option maxRecDepth 100000 in
theorem fronts11_ok (h w c lo hi ot : Int) (oa : Option Addr) (on oc : Nat) (O : Nat → Nat → Int) (Z B : Nat → List Int) (W : World) (hL : LRow W oa on oc O Z B) (ad : Option Addr) (n cap : Nat) (xs : List Int) (hX : IRow .i8 W ad n cap xs) (k0 : Int) (hk0 : (Lit.int .i64 k0).wf = true) (Rw : Int) (RL : List (Int × Int × Int)) (hR : gtR O h w c lo hi ot on = (0, 0, RL, Rw)) (hin : inB h w c lo hi xs = true) :
    Calls Try.prog 5 #[.agg #[.int .i64 h, .int .i64 w, .int .i64 c, .int .i64 lo, .int .i64 hi, .slice oa on oc, .int .i64 ot], .slice ad n cap, .int .i64 k0] W fun e w' => e = .returned (.bool true) ∧ Below W.heap.size W w' := by
  have hocc := hL.1
  have hocm := hL.2.1
  unfold maxLen at hocm
  have HL : Hid (LRow W oa on oc O Z B) := hL
  have HX : Hid (IRow .i8 W ad n cap xs) := hX
  have HXL : Hid (xs.length = n) := hX.1
  have hnc := hX.2.1
  have hnm := hX.2.2.1
  unfold maxLen at hnm
  obtain ⟨-, -, h64, -, -, hfr⟩ := gtR_ok hR
  have HFr : Hid (∀ k : Nat, k ≤ on → _) := hfr
  have HR : Hid (gtR O h w c lo hi ot on = (0, 0, RL, Rw)) := hR
  have HIn : Hid (inB h w c lo hi xs = true) := hin
  have hT : Hid (∀ W', Below W.heap.size W W' → _) := fun W' hb => tensors_ok h w c lo hi ot oa on oc O Z B W' (hL.below hb) ad n cap xs (hX.below hb) Rw RL hR hin
  have HTl : Hid ((tnL O Z B RL xs on).length = on + 1) := tnL_len _ _ _ _ _ _
  have HTg : Hid (∀ i, i ≤ on → (tnL O Z B RL xs on).getD i [] = tnA O Z B RL xs i) := fun i hi => tnL_get _ _ _ _ _ hi
  have HTe : Hid (∀ i, i < on → ∀ v ∈ tnA O Z B RL xs (i + 1), O i 20 ≤ v ∧ v ≤ O i 21) := fun i hi => tnA_ends hR hi
  have HTf : Hid (∀ k, k ≤ on → tnA O Z B (RL.take (k + 1)) xs k = tnA O Z B RL xs k) := fun k hk => tnA_front hR hk
  have s0 := (St.start W).new (c := #[.int .i64 h, .int .i64 w, .int .i64 c, .int .i64 lo, .int .i64 hi, .slice oa on oc, .int .i64 ot]) (t := 26)
  clear hL hX hfr hR hin
  obtain ⟨TL, hTL⟩ : ∃ TL, tnL O Z B RL xs on = TL := ⟨_, rfl⟩
  rw [hTL] at hT HTl HTg
  clear hTL
  go_enter Try.func5, Try.ntmps5
  go_wp2_with fail
  refine (fixed11_any _).mono ?_
  rintro e w1 ⟨rfl, hb⟩
  have S1 : Hid (St W w1 [(W.heap.size, #[.int .i64 h, .int .i64 w, .int .i64 c, .int .i64 lo, .int .i64 hi, .slice oa on oc, .int .i64 ot], 26)]) := s0.call hb
  obtain ⟨c1, f1, z1, -⟩ := S1.out.rules
  clear hb s0
  go_wp2_with fail
  refine Calls.mono (hT.out _ S1.out.below) ?_
  rintro e w2 ⟨⟨v, rfl, hLL⟩, hb⟩
  have hT2 := hLL.rd
  obtain ⟨a2, c2, rfl, -⟩ := id hT2
  rw [HTl.out] at hT2 ⊢
  have t1 := hT2.len.2.1
  have t2 := hT2.len.2.2
  unfold maxLen at t2
  have s3 := (S1.out.call hb).new (c := #[.int .i64 0, .int .i64 0, .int .i64 0]) (t := 51)
  have HT3 : Hid (TRd (w2.alloc (.cells #[.int .i64 0, .int .i64 0, .int .i64 0] 51)) (.slice a2 (on + 1) c2) TL) := hT2.below (bal _ _)
  clear hb hT hLL hT2 S1 c1 f1 z1
  go_upto_region 4 with fail
  obtain ⟨w3, hw3⟩ : ∃ w3, w2.alloc (.cells #[.int .i64 0, .int .i64 0, .int .i64 0] 51) = w3 := ⟨_, rfl⟩
  rw [hw3] at s3 HT3 ⊢
  obtain ⟨b8, hb8⟩ : ∃ b8, w2.heap.size = b8 := ⟨_, rfl⟩
  rw [hb8] at s3 ⊢
  have S3 : Hid (St W w3 [(b8, #[.int .i64 0, .int .i64 0, .int .i64 0], 51), (W.heap.size, #[.int .i64 h, .int .i64 w, .int .i64 c, .int .i64 lo, .int .i64 hi, .slice oa on oc, .int .i64 ot], 26)]) := s3
  clear hw3 hb8 s3
  obtain ⟨c3, f3, z3, c1, f1, z1, -⟩ := S3.out.rules
  obtain ⟨g0, x0, y0, rfl, p0, r0⟩ := HT3.out.at (show 0 < on + 1 by omega)
  rw [HTg.out 0 (Nat.zero_le _), tnA_0, HXL.out] at p0 r0
  have R0 : Hid (IRow .i8 w3 x0 n y0 xs) := r0
  clear r0
  go_wp2_with fail
  refine Calls.mono (same8_b x0 ad n y0 cap xs w3 R0.out (HX.out.below S3.out.below)) ?_
  rintro e w4 ⟨rfl, hb⟩
  have S4 : Hid (St W w4 [(b8, #[.int .i64 0, .int .i64 0, .int .i64 0], 51), (W.heap.size, #[.int .i64 h, .int .i64 w, .int .i64 c, .int .i64 lo, .int .i64 hi, .slice oa on oc, .int .i64 ot], 26)]) := S3.out.call hb
  have HT4 : Hid (TRd w4 (.slice (some ⟨g0, 0, none⟩) (on + 1) c2) TL) := HT3.out.below hb
  clear hb S3 HT3 c1 f1 z1 c3 f3 z3 p0 R0
  obtain ⟨-, -, -, c1, f1, z1, -⟩ := S4.out.rules
  go_wp2
  go_loopw [49] (fun i wr => ∃ y : Nat, y ≤ on ∧ i = .int .i64 y ∧ Below w4.heap.size w4 wr) (fun i _ => on - (intOf i).toNat)
  case atStart => exact ⟨0, Nat.zero_le _, rfl, Below.refl _ _⟩
  case round =>
    obtain ⟨y, hy, rfl, hbr⟩ := hrel
    have SR : Hid (St W wr [(b8, #[.int .i64 0, .int .i64 0, .int .i64 0], 51), (W.heap.size, #[.int .i64 h, .int .i64 w, .int .i64 c, .int .i64 lo, .int .i64 hi, .slice oa on oc, .int .i64 ot], 26)]) := S4.out.call hbr
    have HTR : Hid (TRd wr (.slice (some ⟨g0, 0, none⟩) (on + 1) c2) TL) := HT4.out.below hbr
    have HBR : Hid (Below w4.heap.size w4 wr) := hbr
    clear hbr S4 HT4 c1 f1 z1
    by_cases hlt : y < on
    · obtain ⟨x, rfl, hop⟩ := (HL.out.below SR.out.below).at hlt
      obtain ⟨wa, lw, cw, ba, lb, cb, e12, e13, hcell, -, -, -, -⟩ := hop
      have hopl : Hid (∀ q v, [.int .i64 (O y 0), .int .i64 (O y 1), .int .i64 (O y 2), .int .i64 (O y 3), .int .i64 (O y 4), .int .i64 (O y 5), .int .i64 (O y 6), .int .i64 (O y 7), .int .i64 (O y 8), .int .i64 (O y 9), .int .i64 (O y 10), .int .i64 (O y 11), .slice wa lw cw, .slice ba lb cb, .int .i64 (O y 14), .int .i64 (O y 15), .int .i64 (O y 16), .int .i64 (O y 17), .int .i64 (O y 18), .int .i64 (O y 19), .int .i64 (O y 20), .int .i64 (O y 21)][q]? = some v → wr.cell? ((x.add (y * 22)).add q) = some v) := hcell
      clear hcell e12 e13
      have s7 := SR.out.new (c := #[.int .i64 (O y 0), .int .i64 (O y 1), .int .i64 (O y 2), .int .i64 (O y 3), .int .i64 (O y 4), .int .i64 (O y 5), .int .i64 (O y 6), .int .i64 (O y 7), .int .i64 (O y 8), .int .i64 (O y 9), .int .i64 (O y 10), .int .i64 (O y 11), .slice wa lw cw, .slice ba lb cb, .int .i64 (O y 14), .int .i64 (O y 15), .int .i64 (O y 16), .int .i64 (O y 17), .int .i64 (O y 18), .int .i64 (O y 19), .int .i64 (O y 20), .int .i64 (O y 21)]) (t := 39)
      obtain ⟨vo, hvo⟩ : ∃ vo, Value.agg #[.int .i64 (O y 0), .int .i64 (O y 1), .int .i64 (O y 2), .int .i64 (O y 3), .int .i64 (O y 4), .int .i64 (O y 5), .int .i64 (O y 6), .int .i64 (O y 7), .int .i64 (O y 8), .int .i64 (O y 9), .int .i64 (O y 10), .int .i64 (O y 11), .slice wa lw cw, .slice ba lb cb, .int .i64 (O y 14), .int .i64 (O y 15), .int .i64 (O y 16), .int .i64 (O y 17), .int .i64 (O y 18), .int .i64 (O y 19), .int .i64 (O y 20), .int .i64 (O y 21)] = vo := ⟨_, rfl⟩
      have HVO : Hid (Value.agg #[.int .i64 (O y 0), .int .i64 (O y 1), .int .i64 (O y 2), .int .i64 (O y 3), .int .i64 (O y 4), .int .i64 (O y 5), .int .i64 (O y 6), .int .i64 (O y 7), .int .i64 (O y 8), .int .i64 (O y 9), .int .i64 (O y 10), .int .i64 (O y 11), .slice wa lw cw, .slice ba lb cb, .int .i64 (O y 14), .int .i64 (O y 15), .int .i64 (O y 16), .int .i64 (O y 17), .int .i64 (O y 18), .int .i64 (O y 19), .int .i64 (O y 20), .int .i64 (O y 21)] = vo) := hvo
      go_upto_region 11 with ((refine wpList_load_any rfl 39 (.tmp 52) rfl _ rfl [.int .i64 (O y 0), .int .i64 (O y 1), .int .i64 (O y 2), .int .i64 (O y 3), .int .i64 (O y 4), .int .i64 (O y 5), .int .i64 (O y 6), .int .i64 (O y 7), .int .i64 (O y 8), .int .i64 (O y 9), .int .i64 (O y 10), .int .i64 (O y 11), .slice wa lw cw, .slice ba lb cb, .int .i64 (O y 14), .int .i64 (O y 15), .int .i64 (O y 16), .int .i64 (O y 17), .int .i64 (O y 18), .int .i64 (O y 19), .int .i64 (O y 20), .int .i64 (O y 21)] _ hopl.out Try.underlying39 rfl (by kernel_rfl) ?_; (show wpList _ _ _ _ (Act.put _ _ (Value.agg #[.int .i64 (O y 0), .int .i64 (O y 1), .int .i64 (O y 2), .int .i64 (O y 3), .int .i64 (O y 4), .int .i64 (O y 5), .int .i64 (O y 6), .int .i64 (O y 7), .int .i64 (O y 8), .int .i64 (O y 9), .int .i64 (O y 10), .int .i64 (O y 11), .slice wa lw cw, .slice ba lb cb, .int .i64 (O y 14), .int .i64 (O y 15), .int .i64 (O y 16), .int .i64 (O y 17), .int .i64 (O y 18), .int .i64 (O y 19), .int .i64 (O y 20), .int .i64 (O y 21)])) _); rw [hvo]; clear hvo; refine wpList_run1 rfl (some 10) rfl (.pointer (some ⟨wr.heap.size, 0, none⟩)) (wr.alloc (.cells #[.int .i64 0, .int .i64 0, .int .i64 0, .int .i64 0, .int .i64 0, .int .i64 0, .int .i64 0, .int .i64 0, .int .i64 0, .int .i64 0, .int .i64 0, .int .i64 0, .slice none 0 0, .slice none 0 0, .int .i64 0, .int .i64 0, .int .i64 0, .int .i64 0, .int .i64 0, .int .i64 0, .int .i64 0, .int .i64 0] 39)) (by kernel_rfl) ?_; refine wpList_run1 rfl (some 9) rfl (.int .i64 (y : Int)) (wr.alloc (.cells #[.int .i64 0, .int .i64 0, .int .i64 0, .int .i64 0, .int .i64 0, .int .i64 0, .int .i64 0, .int .i64 0, .int .i64 0, .int .i64 0, .int .i64 0, .int .i64 0, .slice none 0 0, .slice none 0 0, .int .i64 0, .int .i64 0, .int .i64 0, .int .i64 0, .int .i64 0, .int .i64 0, .int .i64 0, .int .i64 0] 39)) (by kernel_rfl) ?_; refine wpList_st_new rfl 39 (.tmp 10) (.tmp 53) rfl wr #[.int .i64 0, .int .i64 0, .int .i64 0, .int .i64 0, .int .i64 0, .int .i64 0, .int .i64 0, .int .i64 0, .int .i64 0, .int .i64 0, .int .i64 0, .int .i64 0, .slice none 0 0, .slice none 0 0, .int .i64 0, .int .i64 0, .int .i64 0, .int .i64 0, .int .i64 0, .int .i64 0, .int .i64 0, .int .i64 0] #[.int .i64 (O y 0), .int .i64 (O y 1), .int .i64 (O y 2), .int .i64 (O y 3), .int .i64 (O y 4), .int .i64 (O y 5), .int .i64 (O y 6), .int .i64 (O y 7), .int .i64 (O y 8), .int .i64 (O y 9), .int .i64 (O y 10), .int .i64 (O y 11), .slice wa lw cw, .slice ba lb cb, .int .i64 (O y 14), .int .i64 (O y 15), .int .i64 (O y 16), .int .i64 (O y 17), .int .i64 (O y 18), .int .i64 (O y 19), .int .i64 (O y 20), .int .i64 (O y 21)] (by kernel_rfl) (Eq.trans (by kernel_rfl : _ = vo) HVO.out.symm) (by kernel_rfl) rfl (by simp [Value.oneCell']) ?_))
      obtain ⟨w7, hw7⟩ : ∃ w7, wr.alloc (.cells #[.int .i64 (O y 0), .int .i64 (O y 1), .int .i64 (O y 2), .int .i64 (O y 3), .int .i64 (O y 4), .int .i64 (O y 5), .int .i64 (O y 6), .int .i64 (O y 7), .int .i64 (O y 8), .int .i64 (O y 9), .int .i64 (O y 10), .int .i64 (O y 11), .slice wa lw cw, .slice ba lb cb, .int .i64 (O y 14), .int .i64 (O y 15), .int .i64 (O y 16), .int .i64 (O y 17), .int .i64 (O y 18), .int .i64 (O y 19), .int .i64 (O y 20), .int .i64 (O y 21)] 39) = w7 := ⟨_, rfl⟩
      have HB7 : Hid (Below wr.heap.size wr w7) := by unfold Hid; rw [← hw7]; exact bal _ _
      rw [hw7] at s7 ⊢
      obtain ⟨ob, hob⟩ : ∃ ob, wr.heap.size = ob := ⟨_, rfl⟩
      rw [hob] at s7 ⊢
      have d1 : w7.cell? ⟨ob, 20, none⟩ = some (.int .i64 (O y 20)) := (cells_at s7.h1).1 20
      have d2 : w7.cell? ⟨ob, 21, none⟩ = some (.int .i64 (O y 21)) := (cells_at s7.h1).1 21
      clear hw7 hob s7 HVO hopl
      obtain ⟨g1, x1, y1, e1, p1, r1⟩ := (HTR.out.below HB7.out).at (show y + 1 < on + 1 by omega)
      cases e1
      rw [HTg.out (y + 1) (by omega)] at p1 r1
      obtain ⟨LN, hLN⟩ : ∃ LN, (tnA O Z B RL xs (y + 1)).length = LN := ⟨_, rfl⟩
      rw [hLN] at p1 r1
      have R1 : Hid (IRow .i8 w7 x1 LN y1 (tnA O Z B RL xs (y + 1))) := r1
      have q1 := r1.2.1
      have q2 := r1.2.2.1
      unfold maxLen at q2
      clear r1 hLN
      go_wp2
      go_loopw [60] (fun i wq => ∃ k q : Nat, k ≤ LN ∧ i = .int .i64 k ∧ wq = w7.drewN q) (fun i _ => LN - (intOf i).toNat)
      case atStart => exact ⟨0, 0, Nat.zero_le _, rfl, rfl⟩
      case round =>
        obtain ⟨k, q, hk, rfl, rfl⟩ := hrel
        by_cases hlk : k < LN
        · obtain ⟨x2, u, rfl, hu, hw, hz, -⟩ := R1.out.at hlk
          have hue := HTe.out y hlt u (List.mem_of_getElem? hz)
          have hu8 := wf_i8 hw
          have wu : IntKind.i64.wrap u = u := w64 ⟨by have := hu8.1; omega, by have := hu8.2; omega⟩
          have n1 : ¬ u < O y 20 := by omega
          have n2 : ¬ O y 21 < u := by omega
          clear hz hw hue hu8
          go_wp2
          go_roundw
          case rel => exact ⟨k + 1, _, by omega, by go_num, rfl⟩
          case measure => simp [intOf]; omega
        · go_wp2
          go_roundw
          case rel => exact ⟨y + 1, by omega, by go_num, btr HBR.out (btr HB7.out (dbel _ _))⟩
          case measure => simp [intOf]; omega
    · obtain ⟨-, -, -, c1, f1, z1, -⟩ := SR.out.rules
      go_upto_region 19 with fail
      obtain ⟨k, hk, hkn⟩ : ∃ k : Nat, wrap64 ((IntKind.u64.wrap k0).tmod ((on : Int) + 1)) = (k : Int) ∧ k ≤ on := by
        have u0 : 0 ≤ IntKind.u64.wrap k0 := by simp [IntKind.wrap, IntKind.bits, IntKind.signed]; omega
        have m0 : 0 ≤ (IntKind.u64.wrap k0).tmod ((on : Int) + 1) := Int.tmod_nonneg _ u0
        have m1 : (IntKind.u64.wrap k0).tmod ((on : Int) + 1) < (on : Int) + 1 := Int.tmod_lt_of_pos _ (by omega)
        refine ⟨((IntKind.u64.wrap k0).tmod ((on : Int) + 1)).toNat, ?_, by omega⟩
        rw [IntWalk.wrap64_in _ ⟨by omega, by omega⟩]
        omega
      rw [hk]
      clear hk hk0
      obtain ⟨wi, hGk, -, -⟩ := HFr.out k hkn
      have HGk : Hid (gtR O h w c lo hi (k : Int) k = (0, 0, RL.take (k + 1), wi)) := hGk
      clear hGk
      have s5 := SR.out.new (c := #[.int .i64 h, .int .i64 w, .int .i64 c, .int .i64 lo, .int .i64 hi, .slice oa on oc, .int .i64 ot]) (t := 26)
      go_upto_region 20 with fail
      obtain ⟨z8, zW⟩ : b8 < wr.heap.size ∧ W.heap.size < wr.heap.size := by obtain ⟨-, -, q1, -, -, q2, -⟩ := SR.out.rules; exact ⟨q1, q2⟩
      obtain ⟨w5, hw5⟩ : ∃ w5, wr.alloc (.cells #[.int .i64 h, .int .i64 w, .int .i64 c, .int .i64 lo, .int .i64 hi, .slice oa on oc, .int .i64 ot] 26) = w5 := ⟨_, rfl⟩
      have HB5 : Hid (Below wr.heap.size wr w5) := by unfold Hid; rw [← hw5]; exact bal _ _
      rw [hw5] at s5 ⊢
      have HLr : Hid (LRow wr oa on oc O Z B) := HL.out.below SR.out.below
      obtain ⟨pb, hpb⟩ : ∃ pb, wr.heap.size = pb := ⟨_, rfl⟩
      have HPB : Hid (wr.heap.size = pb) := hpb
      rw [hpb] at s5 z8 zW ⊢
      have S5 : Hid (St W w5 ((pb, #[.int .i64 h, .int .i64 w, .int .i64 c, .int .i64 lo, .int .i64 hi, .slice oa on oc, .int .i64 ot], 26) :: [(b8, #[.int .i64 0, .int .i64 0, .int .i64 0], 51), (W.heap.size, #[.int .i64 h, .int .i64 w, .int .i64 c, .int .i64 lo, .int .i64 hi, .slice oa on oc, .int .i64 ot], 26)])) := s5
      clear hw5 hpb s5 c1 f1 z1 SR HBR
      obtain ⟨-, -, -, -, -, -, c1, f1, z1, -⟩ := S5.out.rules
      have b1 : (0 : Int) ≤ (k : Int) := by omega
      have b2 : (k : Int) ≤ (oc : Int) := by omega
      go_upto_region 21 with (at_builtin; refine wpList_front rfl (.tmp 88) (.tmp 92) rfl w5.heap.size (by kernel_rfl) (heap_alloc_new w5 _) wr (btr HB5.out (bal _ _)) HB5.out.size w5 (bal _ _) (Nat.le_refl _) oa on oc k O Z B HLr.out hkn h64 (by kernel_rfl) ?_; intro g cp w6 cur hg hgc hL6 hb6 hc6; have HL6 : Hid (∀ w'' : World, Below wr.heap.size wr w'' → w''.heap[g]? = w6.heap[g]? → LRow w'' (some ⟨g, 0, none⟩) k cp O Z B) := hL6; have HB6 : Hid (Below wr.heap.size wr w6) := hb6; have S6 : Hid (St W w6 ((pb, #[.int .i64 h, .int .i64 w, .int .i64 c, .int .i64 lo, .int .i64 hi, .slice oa on oc, .int .i64 ot], 26) :: [(b8, #[.int .i64 0, .int .i64 0, .int .i64 0], 51), (W.heap.size, #[.int .i64 h, .int .i64 w, .int .i64 c, .int .i64 lo, .int .i64 hi, .slice oa on oc, .int .i64 ot], 26)])) := S5.out.call hc6; have hpg : pb ≠ g := ne_of_ty S6.out.h1 hgc (by decide); clear hg hgc hL6 hb6 hc6 S5 HB5 c1 f1 z1; obtain ⟨c5, f5, z5, -⟩ := S6.out.rules)
      go_upto_region 22 with fail
      have s7 := (S6.out.set (i := 5) (v := .slice (some ⟨g, 0, none⟩) k cp) (by simp; omega)).set (i := 6) (v := .int .i64 (k : Int)) (by simp; omega)
      obtain ⟨w7, hw7⟩ : ∃ w7, (w6.setCell ⟨pb, 5, none⟩ (.slice (some ⟨g, 0, none⟩) k cp)).setCell ⟨pb, 6, none⟩ (.int .i64 (k : Int)) = w7 := ⟨_, rfl⟩
      have hB7 : Below wr.heap.size wr w7 := by
        rw [← hw7]
        exact (HB6.out.setCell (p := ⟨pb, 5, none⟩) (by rw [HPB.out]; exact Nat.le_refl _) _).setCell (p := ⟨pb, 6, none⟩) (by rw [HPB.out]; exact Nat.le_refl _) _
      have HL7 : Hid (LRow w7 (some ⟨g, 0, none⟩) k cp O Z B) := HL6.out w7 hB7 (by
        rw [← hw7, Below.heap_setCell _ _ _ _ hpg.symm, Below.heap_setCell _ _ _ _ hpg.symm])
      have HT7 : Hid (TRd w7 (.slice (some ⟨g0, 0, none⟩) (on + 1) c2) TL) := HTR.out.below hB7
      rw [hw7] at s7 ⊢
      have S7 : Hid (St W w7 ((pb, #[.int .i64 h, .int .i64 w, .int .i64 c, .int .i64 lo, .int .i64 hi, .slice (some ⟨g, 0, none⟩) k cp, .int .i64 (k : Int)], 26) :: [(b8, #[.int .i64 0, .int .i64 0, .int .i64 0], 51), (W.heap.size, #[.int .i64 h, .int .i64 w, .int .i64 c, .int .i64 lo, .int .i64 hi, .slice oa on oc, .int .i64 ot], 26)])) := s7
      clear hw7 s7 hB7 HL6 HB6 S6 c5 f5 z5 HPB HLr
      obtain ⟨c5, f5, z5, -⟩ := S7.out.rules
      go_wp2_with fail
      refine Calls.mono (eval_ok h w c lo hi (k : Int) (some ⟨g, 0, none⟩) k cp O Z B w7 HL7.out ad n cap xs (HX.out.below S7.out.below) wi (RL.take (k + 1)) HGk.out HIn.out k rfl (Nat.le_refl _)) ?_
      rintro e w8 ⟨⟨v8, rfl, hO8⟩, hb8'⟩
      rw [HTf.out k hkn] at hO8
      have hT8 := HT7.out.below hb8'
      obtain ⟨g1, x1, y1, e1, p1, r1⟩ := hT8.at (show k < on + 1 by omega)
      cases e1
      rw [HTg.out k hkn] at p1 r1
      obtain ⟨va, vc, rfl, hrow, -⟩ := hO8.row
      obtain ⟨NN, hNN⟩ : ∃ NN, (tnA O Z B RL xs k).length = NN := ⟨_, rfl⟩
      rw [hNN] at p1 r1 hrow ⊢
      have HS : Hid (∀ w', Below w8.heap.size w8 w' → _) := fun w' hb => same8_b va x1 NN vc y1 (tnA O Z B RL xs k) w' (hrow.below hb) (r1.below hb)
      have p1' : ∀ w', Below w8.heap.size w8 w' → w'.cell? ⟨g0, k, none⟩ = some (.slice x1 NN y1) := fun w' hb => (hb.cell (World.block_lt_of_cell? w8 _ p1)).trans p1
      have s8 := (S7.out.call hb8').new (c := #[.int .i64 0, .int .i64 0, .int .i64 0]) (t := 51)
      clear hb8' hT8 hO8 hrow r1 p1 hNN S7 HL7 HT7 c5 f5 z5
      have qe := eqFt 0 0 0 0 0 0 true (by simp)
      go_upto_region 23 with fail
      obtain ⟨w9, hw9⟩ : ∃ w9, w8.alloc (.cells #[.int .i64 0, .int .i64 0, .int .i64 0] 51) = w9 := ⟨_, rfl⟩
      have HS9 : Hid (Calls _ _ _ _ _) := HS.out w9 (by rw [← hw9]; exact bal _ _)
      have p9 := p1' w9 (by rw [← hw9]; exact bal _ _)
      rw [hw9] at s8 ⊢
      obtain ⟨b9, hb9⟩ : ∃ b9, w8.heap.size = b9 := ⟨_, rfl⟩
      rw [hb9] at s8 ⊢
      have S9 : Hid (St W w9 _) := s8
      obtain ⟨c9, f9, z9, -⟩ := S9.out.rules
      clear hw9 hb9 s8 HS p1'
      go_wp2_with fail
      refine Calls.mono HS9.out ?_
      rintro e w10 ⟨rfl, hb10⟩
      have HBE : Hid (Below W.heap.size W w10) := (S9.out.call hb10).below
      clear hb10 S9 c9 f9 z9 HS9
      go_wp2
      go_ret
      exact ⟨rfl, HBE.out⟩
theorem plainFronts_walk (h w c lo hi : Int) (oa : Option Addr) (on oc : Nat) (ot : Int) (ad : Option Addr) (n cap : Nat) (xs : List Int) (k0 : Int) (W : World) (_ : (Lit.int .i64 h).wf = true) (_ : (Lit.int .i64 w).wf = true) (_ : (Lit.int .i64 c).wf = true) (_ : (Lit.int .i64 lo).wf = true) (_ : (Lit.int .i64 hi).wf = true)
    (wo : ORow 22 (OpIn W) W oa on oc) (hr : on * 208 ≤ 140737488351232) (_ : (Lit.int .i64 ot).wf = true) (hX : IRow .i8 W ad n cap xs) (hrx : n * 1 ≤ 140737488351232) (hk0 : (Lit.int .i64 k0).wf = true) :
    Calls Try.prog 5 #[.agg #[.int .i64 h, .int .i64 w, .int .i64 c, .int .i64 lo, .int .i64 hi, .slice oa on oc, .int .i64 ot], .slice ad n cap, .int .i64 k0] W fun e w' => e = .returned (.bool true) ∧ Below W.heap.size W w' := by
  obtain ⟨O, Z, B, hL⟩ := lrow_of wo
  obtain ⟨Re, Ra, RL, Rw, hR⟩ : ∃ Re Ra RL Rw, gtR O h w c lo hi ot on = (Re, Ra, RL, Rw) := ⟨_, _, _, _, rfl⟩
  by_cases he : Re = 0
  · subst he
    obtain ⟨rfl, -, -, -, -, -⟩ := gtR_ok hR
    cases hin : inB h w c lo hi xs with
    | false => exact fronts11_bad h w c lo hi ot oa on oc W ad n cap k0 220 0 (by decide) (fun W2 hb2 => tensors_in h w c lo hi ot oa on oc O Z B W2 (hL.below hb2) ad n cap xs (hX.below hb2) Rw RL hR hin)
    | true => exact fronts11_ok h w c lo hi ot oa on oc O Z B W hL ad n cap xs hX k0 hk0 Rw RL hR hin
  · exact fronts11_bad h w c lo hi ot oa on oc W ad n cap k0 Re Ra he (fun W2 hb2 => tensors_bad h w c lo hi ot oa on oc O Z B W2 (hL.below hb2) ad n cap xs (hX.below hb2) Re Ra Rw RL hR he)
end Go.Proofs.Ytdknofbnhjdfjaa

/- What the document's own functions of an op return: Length, Positions, weight, Bias. -/
namespace Go.Proofs.Ytdknofbnhjdfjaa
open Go.ChangeShapes Go.WideShapes Go.ChangeAt Go.RowKit
set_option linter.unusedVariables false
theorem list_cells {w : World} {B : Nat} {cs : Array Value} {T : TypeId} (h : w.heap[B]? = some (.cells cs T (0, 0))) {l : List Value} (hl : ∀ (q : Nat) (v : Value), l[q]? = some v → cs[q]? = some v) : ∀ (q : Nat) (v : Value), l[q]? = some v → w.cell? ((⟨B, 0, none⟩ : Addr).add q) = some v := fun q v hq => by
  rw [Addr.add_lit, Nat.zero_add, (cells_at h).1]
  exact hl q v hq
theorem front_get (l r : List Value) : ∀ (q : Nat) (v : Value), l[q]? = some v → (l ++ r).toArray[q]? = some v := fun q v hq => by
  have := (List.getElem?_eq_some_iff.1 hq).1
  rw [List.getElem?_toArray, List.getElem?_append_left this]
  exact hq
set_option maxRecDepth 100000 in
set_option maxHeartbeats 2000000 in
theorem rlen_any (k a b m kh kw sh sw tp lf bt rt : Int) (wa : Option Addr) (lw wc : Nat) (ba : Option Addr) (lb bc : Nat) (sm ss um us z p lo hi h w c H V C : Int) (W : World) (s : Sit k kh kw sh sw tp lf bt rt h w c H V C lw lb) :
    Calls Try.prog 67 #[.agg #[.int .i64 k, .int .i64 a, .int .i64 b, .int .i64 m, .int .i64 kh, .int .i64 kw, .int .i64 sh, .int .i64 sw, .int .i64 tp, .int .i64 lf, .int .i64 bt, .int .i64 rt, .slice wa lw wc, .slice ba lb bc, .int .i64 sm, .int .i64 ss, .int .i64 um, .int .i64 us, .int .i64 z, .int .i64 p, .int .i64 lo, .int .i64 hi, .int .i64 h, .int .i64 w, .int .i64 c, .int .i64 H, .int .i64 V, .int .i64 C]] W fun e w' => e = .returned (.int .i64 (stR k kh kw h w c)) ∧ Below W.heap.size W w' := by
  have s0 := (St.start W).new (c := #[.int .i64 k, .int .i64 a, .int .i64 b, .int .i64 m, .int .i64 kh, .int .i64 kw, .int .i64 sh, .int .i64 sw, .int .i64 tp, .int .i64 lf, .int .i64 bt, .int .i64 rt, .slice wa lw wc, .slice ba lb bc, .int .i64 sm, .int .i64 ss, .int .i64 um, .int .i64 us, .int .i64 z, .int .i64 p, .int .i64 lo, .int .i64 hi, .int .i64 h, .int .i64 w, .int .i64 c, .int .i64 H, .int .i64 V, .int .i64 C]) (t := 41)
  have hL : Hid (∀ W', _) := fun W' => length_any k a b m kh kw sh sw tp lf bt rt wa lw wc ba lb bc sm ss um us z p lo hi h w c W' (decide_eq_true s.1) s.2.1 (fun q => s.2.2.2.2.2.1 (by omega))
  have hC : Hid (∀ q v, [.int .i64 k, .int .i64 a, .int .i64 b, .int .i64 m, .int .i64 kh, .int .i64 kw, .int .i64 sh, .int .i64 sw, .int .i64 tp, .int .i64 lf, .int .i64 bt, .int .i64 rt, .slice wa lw wc, .slice ba lb bc, .int .i64 sm, .int .i64 ss, .int .i64 um, .int .i64 us, .int .i64 z, .int .i64 p, .int .i64 lo, .int .i64 hi][q]? = some v → (W.alloc (.cells #[.int .i64 k, .int .i64 a, .int .i64 b, .int .i64 m, .int .i64 kh, .int .i64 kw, .int .i64 sh, .int .i64 sw, .int .i64 tp, .int .i64 lf, .int .i64 bt, .int .i64 rt, .slice wa lw wc, .slice ba lb bc, .int .i64 sm, .int .i64 ss, .int .i64 um, .int .i64 us, .int .i64 z, .int .i64 p, .int .i64 lo, .int .i64 hi, .int .i64 h, .int .i64 w, .int .i64 c, .int .i64 H, .int .i64 V, .int .i64 C] 41)).cell? ((⟨W.heap.size, 0, none⟩ : Addr).add q) = some v) := list_cells (heap_alloc_new W _) (front_get [.int .i64 k, .int .i64 a, .int .i64 b, .int .i64 m, .int .i64 kh, .int .i64 kw, .int .i64 sh, .int .i64 sw, .int .i64 tp, .int .i64 lf, .int .i64 bt, .int .i64 rt, .slice wa lw wc, .slice ba lb bc, .int .i64 sm, .int .i64 ss, .int .i64 um, .int .i64 us, .int .i64 z, .int .i64 p, .int .i64 lo, .int .i64 hi] [.int .i64 h, .int .i64 w, .int .i64 c, .int .i64 H, .int .i64 V, .int .i64 C])
  clear s
  go_enter Try.func67, Try.ntmps67
  go_wp2_with (refine wpList_load_any rfl 39 (.tmp 3) rfl _ rfl [.int .i64 k, .int .i64 a, .int .i64 b, .int .i64 m, .int .i64 kh, .int .i64 kw, .int .i64 sh, .int .i64 sw, .int .i64 tp, .int .i64 lf, .int .i64 bt, .int .i64 rt, .slice wa lw wc, .slice ba lb bc, .int .i64 sm, .int .i64 ss, .int .i64 um, .int .i64 us, .int .i64 z, .int .i64 p, .int .i64 lo, .int .i64 hi] _ hC.out Try.underlying39 rfl (by kernel_rfl) ?_)
  refine (hL.out _).mono ?_
  rintro e w1 ⟨rfl, hb⟩
  have s1 := s0.call hb
  clear hb
  go_wp2
  go_ret
  exact ⟨rfl, s1.below⟩
set_option maxHeartbeats 2000000 in
theorem rpos_any (k a b m kh kw sh sw tp lf bt rt : Int) (wa : Option Addr) (lw wc : Nat) (ba : Option Addr) (lb bc : Nat) (sm ss um us z p lo hi h w c H V C : Int) (W : World) (g : vS H V C = true) :
    Calls Try.prog 26 #[.agg #[.int .i64 k, .int .i64 a, .int .i64 b, .int .i64 m, .int .i64 kh, .int .i64 kw, .int .i64 sh, .int .i64 sw, .int .i64 tp, .int .i64 lf, .int .i64 bt, .int .i64 rt, .slice wa lw wc, .slice ba lb bc, .int .i64 sm, .int .i64 ss, .int .i64 um, .int .i64 us, .int .i64 z, .int .i64 p, .int .i64 lo, .int .i64 hi, .int .i64 h, .int .i64 w, .int .i64 c, .int .i64 H, .int .i64 V, .int .i64 C]] W fun e w' => e = .returned (.int .i64 (H * V)) ∧ Below W.heap.size W w' := by
  have s0 := (St.start W).new (c := #[.int .i64 k, .int .i64 a, .int .i64 b, .int .i64 m, .int .i64 kh, .int .i64 kw, .int .i64 sh, .int .i64 sw, .int .i64 tp, .int .i64 lf, .int .i64 bt, .int .i64 rt, .slice wa lw wc, .slice ba lb bc, .int .i64 sm, .int .i64 ss, .int .i64 um, .int .i64 us, .int .i64 z, .int .i64 p, .int .i64 lo, .int .i64 hi, .int .i64 h, .int .i64 w, .int .i64 c, .int .i64 H, .int .i64 V, .int .i64 C]) (t := 41)
  have p3 := vS_bd g
  clear g
  go_enter Try.func26, Try.ntmps26
  go_wp2
  go_ret
  exact ⟨rfl, s0.below⟩
set_option maxHeartbeats 2000000 in
theorem rbias_any (k a b m kh kw sh sw tp lf bt rt : Int) (wa : Option Addr) (lw wc : Nat) (ba : Option Addr) (lb bc : Nat) (sm ss um us z p lo hi h w c H V C : Int) (W : World) (bs : List Int) (hB : IRow .i32 W ba lb bc bs) (s : Sit k kh kw sh sw tp lf bt rt h w c H V C lw lb) (ch : Int) (hc : 1 ≤ ch ∧ ch ≤ C) :
    Calls Try.prog 49 #[.agg #[.int .i64 k, .int .i64 a, .int .i64 b, .int .i64 m, .int .i64 kh, .int .i64 kw, .int .i64 sh, .int .i64 sw, .int .i64 tp, .int .i64 lf, .int .i64 bt, .int .i64 rt, .slice wa lw wc, .slice ba lb bc, .int .i64 sm, .int .i64 ss, .int .i64 um, .int .i64 us, .int .i64 z, .int .i64 p, .int .i64 lo, .int .i64 hi, .int .i64 h, .int .i64 w, .int .i64 c, .int .i64 H, .int .i64 V, .int .i64 C], .int .i64 ch] W fun e w' => e = .returned (.int .i64 (biA k ch bs)) ∧ Below W.heap.size W w' := by
  have s0 := (St.start W).new (c := #[.int .i64 k, .int .i64 a, .int .i64 b, .int .i64 m, .int .i64 kh, .int .i64 kw, .int .i64 sh, .int .i64 sw, .int .i64 tp, .int .i64 lf, .int .i64 bt, .int .i64 rt, .slice wa lw wc, .slice ba lb bc, .int .i64 sm, .int .i64 ss, .int .i64 um, .int .i64 us, .int .i64 z, .int .i64 p, .int .i64 lo, .int .i64 hi, .int .i64 h, .int .i64 w, .int .i64 c, .int .i64 H, .int .i64 V, .int .i64 C]) (t := 41)
  obtain ⟨hk, -, hv, -, -, -, hl, -⟩ := s
  have hC := (vS_yes hv).2.2.1
  by_cases k4 : k = 4
  · subst k4
    rw [show biA 4 ch bs = 0 from if_pos rfl]
    go_enter Try.func49, Try.ntmps49
    go_wp2
    go_ret
    exact ⟨rfl, s0.below⟩
  · rw [show biA k ch bs = bs.getD (ch - 1).toNat 0 from if_neg k4]
    have hl2 := (hl (by omega)).2
    obtain ⟨n, rfl⟩ : ∃ n : Nat, ch = (n : Int) + 1 := ⟨(ch - 1).toNat, by omega⟩
    have hm := hB.2.2.1
    have hcc := hB.2.1
    unfold maxLen at hm
    obtain ⟨x, u, rfl, hu, hwf, hz, -⟩ := (hB.below s0.below).at (show n < lb by omega)
    obtain ⟨u1, u2⟩ := wf_i32 hwf
    have e : bs.getD ((n : Int) + 1 - 1).toNat 0 = u := by rw [show ((n : Int) + 1 - 1).toNat = n by omega, List.getD_eq_getElem?_getD, hz]; rfl
    rw [e]
    have k4' : (k == 4) = false := by simp [k4]
    have HB : Hid (Below W.heap.size W _) := s0.below
    obtain ⟨c1, f1, z1, -⟩ := s0.rules
    clear e hz hwf hB hl
    go_enter Try.func49, Try.ntmps49
    go_wp2
    go_ret
    exact ⟨rfl, HB.out⟩
set_option maxRecDepth 100000 in
set_option maxHeartbeats 4000000 in
theorem rwei_any (k a b m kh kw sh sw tp lf bt rt : Int) (wa : Option Addr) (lw wc : Nat) (ba : Option Addr) (lb bc : Nat) (sm ss um us z p lo hi h w c H V C : Int) (W : World) (zs : List Int) (hZ : IRow .i16 W wa lw wc zs) (s : Sit k kh kw sh sw tp lf bt rt h w c H V C lw lb) (ch : Int) (hc : 1 ≤ ch ∧ ch ≤ C) (i : Nat) (hi0 : (i : Int) < stR k kh kw h w c) :
    Calls Try.prog 68 #[.agg #[.int .i64 k, .int .i64 a, .int .i64 b, .int .i64 m, .int .i64 kh, .int .i64 kw, .int .i64 sh, .int .i64 sw, .int .i64 tp, .int .i64 lf, .int .i64 bt, .int .i64 rt, .slice wa lw wc, .slice ba lb bc, .int .i64 sm, .int .i64 ss, .int .i64 um, .int .i64 us, .int .i64 z, .int .i64 p, .int .i64 lo, .int .i64 hi, .int .i64 h, .int .i64 w, .int .i64 c, .int .i64 H, .int .i64 V, .int .i64 C], .int .i64 ch, .int .i64 i] W fun e w' => e = .returned (.int .i64 (wgA k ch (stR k kh kw h w c) zs i)) ∧ Below W.heap.size W w' := by
  have hL : Hid (∀ W', Calls Try.prog 67 #[.agg #[.int .i64 k, .int .i64 a, .int .i64 b, .int .i64 m, .int .i64 kh, .int .i64 kw, .int .i64 sh, .int .i64 sw, .int .i64 tp, .int .i64 lf, .int .i64 bt, .int .i64 rt, .slice wa lw wc, .slice ba lb bc, .int .i64 sm, .int .i64 ss, .int .i64 um, .int .i64 us, .int .i64 z, .int .i64 p, .int .i64 lo, .int .i64 hi, .int .i64 h, .int .i64 w, .int .i64 c, .int .i64 H, .int .i64 V, .int .i64 C]] W' fun e w' => e = .returned (.int .i64 (stR k kh kw h w c)) ∧ Below W'.heap.size W' w') := fun W' => rlen_any k a b m kh kw sh sw tp lf bt rt wa lw wc ba lb bc sm ss um us z p lo hi h w c H V C W' s
  have s0 := (St.start W).new (c := #[.int .i64 k, .int .i64 a, .int .i64 b, .int .i64 m, .int .i64 kh, .int .i64 kw, .int .i64 sh, .int .i64 sw, .int .i64 tp, .int .i64 lf, .int .i64 bt, .int .i64 rt, .slice wa lw wc, .slice ba lb bc, .int .i64 sm, .int .i64 ss, .int .i64 um, .int .i64 us, .int .i64 z, .int .i64 p, .int .i64 lo, .int .i64 hi, .int .i64 h, .int .i64 w, .int .i64 c, .int .i64 H, .int .i64 V, .int .i64 C]) (t := 41)
  obtain ⟨hk, -, hv, -, -, -, hl, -, hst0, hst1⟩ := s
  have hC := (vS_yes hv).2.2.1
  obtain ⟨st, hst⟩ : ∃ st, stR k kh kw h w c = st := ⟨_, rfl⟩
  rw [hst] at hL hl hst0 hst1 hi0 ⊢
  clear hst hv
  by_cases k4 : k = 4
  · subst k4
    rw [show wgA 4 ch st zs i = 1 from if_pos rfl]
    go_enter Try.func68, Try.ntmps68
    go_wp2
    go_ret
    exact ⟨rfl, s0.below⟩
  · rw [show wgA k ch st zs i = zs.getD ((ch - 1) * st + i).toNat 0 from if_neg k4]
    have hl2 := (hl (by omega)).1
    obtain ⟨d, rfl⟩ : ∃ d : Nat, ch = (d : Int) + 1 := ⟨(ch - 1).toNat, by omega⟩
    have hm := hZ.2.2.1
    have hcc := hZ.2.1
    unfold maxLen at hm
    have p1 : 0 ≤ (d : Int) * st := Int.mul_nonneg (by omega) (by omega)
    have p2 : (d : Int) * st + st ≤ C * st := by
      have := Int.mul_le_mul_of_nonneg_right (show (d : Int) + 1 ≤ C by omega) (show 0 ≤ st by omega)
      rwa [Int.add_mul, Int.one_mul] at this
    obtain ⟨p', ep⟩ : ∃ p', (d : Int) * st = p' := ⟨_, rfl⟩
    rw [show (d : Int) + 1 - 1 = d by omega, ep]
    rw [ep] at p1 p2
    rw [← hl2] at p2
    obtain ⟨N, eN⟩ : ∃ N : Nat, p' + (i : Int) = (N : Int) := ⟨(p' + i).toNat, by omega⟩
    rw [eN]
    have hN : N < lw := by omega
    have hZ2 := hZ.below s0.below
    obtain ⟨x, u, rfl, hu, hwf, hz, -⟩ := hZ2.at hN
    obtain ⟨u1, u2⟩ := wf_i16 hwf
    have e : zs.getD ((N : Int)).toNat 0 = u := by rw [Int.toNat_natCast, List.getD_eq_getElem?_getD, hz]; rfl
    rw [e]
    have k4' : (k == 4) = false := by simp [k4]
    have hd1 : (d : Int) + 1 ≤ 1024 := by omega
    have hi2 : (i : Int) ≤ 512 := by omega
    have hNl : (N : Int) < (lw : Int) := by omega
    clear e hz hwf hl hl2 hC hc hZ hZ2
    go_enter Try.func68, Try.ntmps68
    go_upto_region 3 with fail
    obtain ⟨wv, hwv⟩ : ∃ wv, W.alloc (.cells #[.int .i64 k, .int .i64 a, .int .i64 b, .int .i64 m, .int .i64 kh, .int .i64 kw, .int .i64 sh, .int .i64 sw, .int .i64 tp, .int .i64 lf, .int .i64 bt, .int .i64 rt, .slice (some x) lw wc, .slice ba lb bc, .int .i64 sm, .int .i64 ss, .int .i64 um, .int .i64 us, .int .i64 z, .int .i64 p, .int .i64 lo, .int .i64 hi, .int .i64 h, .int .i64 w, .int .i64 c, .int .i64 H, .int .i64 V, .int .i64 C] 41) = wv := ⟨_, rfl⟩
    rw [hwv] at s0 hu ⊢
    have hbel : Hid (Below W.heap.size W wv) := s0.below
    have hG := s0.h1
    have hGz := lt_of_heap hG
    have hux : Hid ((x.add N).block < wv.heap.size) := World.block_lt_of_cell? _ _ hu
    clear s0 hwv
    refine regionC (fun w' => Below wv.heap.size wv w') (by kernel_rfl) ?_
    obtain ⟨wd, hwd⟩ : ∃ wd, wv.drew = wd := ⟨_, rfl⟩
    have HD : Hid (Below wv.heap.size wv wd) := by unfold Hid; rw [← hwd]; exact (Below.refl _ _).drew
    rw [hwd]
    clear hwd
    refine takeC 0 (v := .pointer (some ⟨W.heap.size, 0, none⟩)) rfl rfl (by kernel_rfl) (by kernel_rfl) (by kernel_rfl) (fun _ _ _ h => h) (fun _ => rfl) rfl (fun w' hw' => by go_simp) ?_
    refine takeC 1 (v := .pointer (some ⟨W.heap.size, 12, none⟩)) rfl rfl (by kernel_rfl) (by kernel_rfl) (by kernel_rfl) (fun _ _ _ h => h) (fun _ => rfl) rfl (fun w' hw' => by go_simp) ?_
    refine takeC 2 (v := .slice (some x) lw wc) rfl rfl (by kernel_rfl) (by kernel_rfl) (by kernel_rfl) (fun _ _ _ h => h) (fun _ => rfl) rfl (fun w' hw' => by have hc := (cells_at ((hw'.block _ hGz).trans hG)).1 12; go_simp) ?_
    refine takeC 3 (v := .int .i64 ((d : Int) + 1)) rfl rfl (by kernel_rfl) (by kernel_rfl) (by kernel_rfl) (fun _ _ _ h => h) (fun _ => rfl) rfl (fun w' hw' => by go_simp) ?_
    refine takeC 4 (v := .int .i64 (d : Int)) rfl rfl (by kernel_rfl) (by kernel_rfl) (by kernel_rfl) (fun _ _ _ h => h) (fun _ => rfl) rfl (fun w' hw' => by go_simp; rw [IntKind.wrap_i64]; omega) ?_
    refine takeC 5 (v := .agg #[.int .i64 k, .int .i64 a, .int .i64 b, .int .i64 m, .int .i64 kh, .int .i64 kw, .int .i64 sh, .int .i64 sw, .int .i64 tp, .int .i64 lf, .int .i64 bt, .int .i64 rt, .slice (some x) lw wc, .slice ba lb bc, .int .i64 sm, .int .i64 ss, .int .i64 um, .int .i64 us, .int .i64 z, .int .i64 p, .int .i64 lo, .int .i64 hi, .int .i64 h, .int .i64 w, .int .i64 c, .int .i64 H, .int .i64 V, .int .i64 C]) rfl rfl (by kernel_rfl) (by kernel_rfl) (by kernel_rfl) (fun _ _ _ h => h) (fun _ => rfl) rfl (fun w' hw' => run_la 41 (.tmp 3) rfl ⟨W.heap.size, 0, none⟩ (by kernel_rfl) [.int .i64 k, .int .i64 a, .int .i64 b, .int .i64 m, .int .i64 kh, .int .i64 kw, .int .i64 sh, .int .i64 sw, .int .i64 tp, .int .i64 lf, .int .i64 bt, .int .i64 rt, .slice (some x) lw wc, .slice ba lb bc, .int .i64 sm, .int .i64 ss, .int .i64 um, .int .i64 us, .int .i64 z, .int .i64 p, .int .i64 lo, .int .i64 hi, .int .i64 h, .int .i64 w, .int .i64 c, .int .i64 H, .int .i64 V, .int .i64 C] _ (list_cells ((hw'.block _ hGz).trans hG) (fun q v hq => by simpa using hq)) Try.underlying41 rfl (by kernel_rfl)) ?_
    refine takeC 8 (v := .int .i64 (i : Int)) rfl rfl (by kernel_rfl) (by kernel_rfl) (by kernel_rfl) (fun _ _ _ h => h) (fun _ => rfl) rfl (fun w' hw' => by go_simp) ?_
    refine stepC 6 HD.out (by kernel_rfl) rfl (fun K hK => step_wp rfl ?_)
    go_simp
    refine (hL.out _).mono ?_
    rintro e w3 ⟨rfl, hb3⟩
    refine hK _ _ ?_
    clear hK K
    have H3 : Hid (Below wv.heap.size wv w3) := HD.out.trans (hb3.mono HD.out.size)
    clear hb3 HD
    refine takeC 7 (v := .int .i64 p') rfl rfl (by kernel_rfl) (by kernel_rfl) (by kernel_rfl) (fun _ _ _ h => h) (fun _ => rfl) rfl (fun w' hw' => by go_simp; try (rw [IntKind.wrap_i64]; omega)) ?_
    refine takeC 9 (v := .int .i64 (N : Int)) rfl rfl (by kernel_rfl) (by kernel_rfl) (by kernel_rfl) (fun _ _ _ h => h) (fun _ => rfl) rfl (fun w' hw' => by go_simp; try (rw [IntKind.wrap_i64]; omega)) ?_
    refine takeC 10 (v := .pointer (some (x.add N))) rfl rfl (by kernel_rfl) (by kernel_rfl) (by kernel_rfl) (fun _ _ _ h => h) (fun _ => rfl) rfl (fun w' hw' => by go_simp) ?_
    refine takeC 11 (v := .int .i16 u) rfl rfl (by kernel_rfl) (by kernel_rfl) (by kernel_rfl) (fun _ _ _ h => h) (fun _ => rfl) rfl (fun w' hw' => by have hc := (hw'.cell hux.out).trans hu; go_simp) ?_
    refine takeC 12 (v := .int .i64 u) rfl rfl (by kernel_rfl) (by kernel_rfl) (by kernel_rfl) (fun _ _ _ h => h) (fun _ => rfl) rfl (fun w' hw' => by go_simp; try (rw [IntKind.wrap_i64]; omega)) ?_
    refine takeC 13 (v := .int .i64 u) rfl rfl (by kernel_rfl) (by kernel_rfl) (by kernel_rfl) (fun _ _ _ h => h) (fun _ => rfl) rfl (fun w' hw' => by go_simp) ?_
    refine doneC H3.out (by kernel_rfl) ?_ _
    go_wp2
    go_ret
    exact ⟨rfl, hbel.out.trans (H3.out.mono hbel.out.size)⟩
end Go.Proofs.Ytdknofbnhjdfjaa
