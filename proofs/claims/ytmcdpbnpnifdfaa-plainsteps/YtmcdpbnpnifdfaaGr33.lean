/- The document's Same of layer 11, of lists that are the same; faults compared. Fronts of tensors in plain numbers; between which ends they lie. The first ops of a model, appended to none: one law. -/
import Derived.Test.YtmcdpbnpnifdfaaGr27
/- The document's Same of layer 11, of lists that are the same; faults compared. -/
namespace Go.Proofs.Ytmcdpbnpnifdfaa
open Go.ChangeShapes Go.WideShapes Go.ChangeAt Go.RowKit
set_option linter.unusedVariables false
theorem neFt (a b c d e f : Int) (v : Bool) (h : decide (a = d ∧ b = e ∧ c = f) = v) : ∀ W, (binOp .neq 51 (.agg #[.int .i64 a, .int .i64 b, .int .i64 c]) (.agg #[.int .i64 d, .int .i64 e, .int .i64 f])).run Try.prog W = .ok (.bool (!v)) W := by
  intro W; subst h; simp [go_sem]; repeat' split
  all_goals simp_all
theorem eqFt (a b c d e f : Int) (v : Bool) (h : decide (a = d ∧ b = e ∧ c = f) = v) : ∀ W, (binOp .eql 51 (.agg #[.int .i64 a, .int .i64 b, .int .i64 c]) (.agg #[.int .i64 d, .int .i64 e, .int .i64 f])).run Try.prog W = .ok (.bool v) W := by
  intro W; subst h; simp [go_sem]; repeat' split
  all_goals simp_all
set_option maxHeartbeats 1000000 in
theorem same8_any (a b : Option Addr) (n ca cb : Nat) (xs : List Int) (W : World) (ha : IRow .i8 W a n ca xs) (hb : IRow .i8 W b n cb xs) :
    Calls Try.prog 17 #[.slice a n ca, .slice b n cb] W fun e w' => e = .returned (.bool true) ∧ ∃ q, w' = W.drewN q := by
  have HA : Hid (IRow .i8 W a n ca xs) := ha
  have HB : Hid (IRow .i8 W b n cb xs) := hb
  have h1 := ha.2.1
  have h2 := ha.2.2.1
  have h3 := hb.2.1
  have h4 := hb.2.2.1
  unfold maxLen at h2 h4
  clear ha hb
  go_enter Try.func17, Try.ntmps17
  go_wp2
  go_loopw [13] (fun i wr => ∃ k q : Nat, k ≤ n ∧ i = .int .i64 k ∧ wr = W.drewN q) (fun i _ => n - (intOf i).toNat)
  case atStart => exact ⟨0, 0, Nat.zero_le _, rfl, rfl⟩
  case round =>
    obtain ⟨k, q, hk, rfl, rfl⟩ := hrel
    by_cases hlt : k < n
    · obtain ⟨x1, u, rfl, hu, hw, hz, -⟩ := HA.out.at hlt
      obtain ⟨x2, u', rfl, hu', -, hz', -⟩ := HB.out.at hlt
      obtain rfl : u = u' := by rw [hz] at hz'; exact Option.some.inj hz'
      clear hz hz' hw
      go_wp2
      go_quiet (fail)
      go_wp2
      go_roundw
      case rel => exact ⟨k + 1, _, by omega, by go_num, rfl⟩
      case measure => simp [intOf]; omega
    · go_wp2
      go_ret
      exact ⟨rfl, _, rfl⟩
theorem same8_b (a b : Option Addr) (n ca cb : Nat) (xs : List Int) (W : World) (ha : IRow .i8 W a n ca xs) (hb : IRow .i8 W b n cb xs) :
    Calls Try.prog 17 #[.slice a n ca, .slice b n cb] W fun e w' => e = .returned (.bool true) ∧ Below W.heap.size W w' :=
  (same8_any a b n ca cb xs W ha hb).mono fun e w' ⟨h, q, hq⟩ => ⟨h, by rw [hq]; exact dbel _ _⟩
end Go.Proofs.Ytmcdpbnpnifdfaa

/- Fronts of tensors in plain numbers; between which ends they lie. -/
namespace Go.Proofs.Ytmcdpbnpnifdfaa
open Go.ChangeShapes Go.WideShapes Go.ChangeAt Go.RowKit
set_option linter.unusedVariables false
/-- A tensor hangs on the ops ahead, and on their shapes, alone. -/
theorem tnL_front {O : Nat → Nat → Int} {Z B : Nat → List Int} {L : List (Int × Int × Int)} {x : List Int} {k : Nat} (hA : ∀ i, i < k → 0 ≤ O i 1 ∧ O i 1 ≤ (i : Int)) : ∀ n, n ≤ k → tnL O Z B (L.take (k + 1)) x n = tnL O Z B L x n
  | 0, _ => rfl
  | n + 1, hn => by
    have ih := tnL_front (L := L) (x := x) (Z := Z) (B := B) hA n (by omega)
    have e1 : (L.take (k + 1)).getD (O n 1).toNat (0, 0, 0) = L.getD (O n 1).toNat (0, 0, 0) := by
      have := hA n (by omega)
      simp only [List.getD]
      rw [List.getElem?_take, if_pos (by omega)]
    have e2 : (L.take (k + 1)).getD (n + 1) (0, 0, 0) = L.getD (n + 1) (0, 0, 0) := by
      simp only [List.getD]
      rw [List.getElem?_take, if_pos (by omega)]
    simp only [tnL]
    rw [ih, e1, e2]
theorem tnA_front {O : Nat → Nat → Int} {Z B : Nat → List Int} {h w c lo hi ot wk : Int} {on : Nat} {L : List (Int × Int × Int)} {x : List Int} (q : gtR O h w c lo hi ot on = (0, 0, L, wk)) {k : Nat} (hk : k ≤ on) : tnA O Z B (L.take (k + 1)) x k = tnA O Z B L x k := by
  unfold tnA
  rw [tnL_front (fun i hi => ?_) k (Nat.le_refl _)]
  obtain ⟨ja, jb, e1, h1, -⟩ := opd_of q (show i < on by omega)
  omega
/-- Each number lies between its op's ends. -/
theorem tnA_ends {O : Nat → Nat → Int} {Z B : Nat → List Int} {h w c lo hi ot wk : Int} {on : Nat} {L : List (Int × Int × Int)} {x : List Int} (q : gtR O h w c lo hi ot on = (0, 0, L, wk)) {n : Nat} (hn : n < on) : ∀ v ∈ tnA O Z B L x (n + 1), O n 20 ≤ v ∧ v ≤ O n 21 := by
  obtain ⟨ja, jb, e1, h1, e2, h2, hO⟩ := opd_of q hn
  obtain ⟨a1, a2, a3, hA⟩ : ∃ a1 a2 a3, L.getD ja (0, 0, 0) = (a1, a2, a3) := ⟨_, _, _, rfl⟩
  obtain ⟨b1, b2, b3, hB⟩ : ∃ b1 b2 b3, L.getD (n + 1) (0, 0, 0) = (b1, b2, b3) := ⟨_, _, _, rfl⟩
  obtain ⟨s, -⟩ := hO _ _ _ _ _ _ hA hB
  have hf := fiB_of s.rz
  rw [tnA_succ e1 e2 h1 h2]
  unfold opT teL fiL
  intro v hv
  obtain ⟨u, -, rfl⟩ := List.mem_map.1 hv
  exact fiV_in hf
theorem LRow.front {w : World} {oa : Option Addr} {on oc : Nat} {O : Nat → Nat → Int} {Z B : Nat → List Int} (h : LRow w oa on oc O Z B) {k : Nat} (hk : k ≤ on) : LRow w oa k oc O Z B := ⟨by have := h.1; omega, h.2.1, h.2.2.1, fun x hx i hi => h.2.2.2 x hx i (by omega)⟩
theorem lrow_copy {w w' : World} {x : Addr} {on oc k base : Nat} {v : Value} {O : Nat → Nat → Int} {Z B : Nat → List Int} (h : LRow w (some x) on oc O Z B) (hk : k ≤ on) (hown : w'.ownsRow base 39 22 v k (mc w x (k * 22))) (hv : v ≠ .slice none 0 0) (hZ : ∀ wa lw cw z, IRow .i16 w wa lw cw z → IRow .i16 w' wa lw cw z) (hB : ∀ ba lb cb b, IRow .i32 w ba lb cb b → IRow .i32 w' ba lb cb b) :
    ∃ g cap cur, v = .slice (some ⟨g, 0, none⟩) k cap ∧ base ≤ g ∧ w'.heap[g]? = some (.cells cur 39 (0, 0)) ∧ LRow w' (some ⟨g, 0, none⟩) k cap O Z B := by
  rcases hown.2 with ⟨h0, -⟩ | ⟨g, cap, cur, h1, h2, h3, h4, h5, h6, h7⟩
  · exact absurd h0 hv
  · refine ⟨g, cap, cur, h1, h2, h3, h4, h5, fun q => (by cases q), fun y hy i hi => ?_⟩
    cases hy
    obtain ⟨wa, lw, cw, ba, lb, cb, e1, e2, e3, e4, e5, e6, e7⟩ := h.2.2.2 x rfl i (by omega)
    refine ⟨wa, lw, cw, ba, lb, cb, e1, e2, fun j u hj => ?_, hZ _ _ _ _ e4, hB _ _ _ _ e5, e6, e7⟩
    have hj' : j < 22 := (List.getElem?_eq_some_iff.1 hj).1
    rw [Addr.add_add]
    refine hown.cells (by rw [h1]; rfl) _ _ (mc_at (by omega) ?_)
    rw [← Addr.add_add]
    exact e3 j u hj
theorem LRow.heap {w w' : World} {g k cap : Nat} {O : Nat → Nat → Int} {Z B : Nat → List Int} (h : LRow w (some ⟨g, 0, none⟩) k cap O Z B) (e : w'.heap[g]? = w.heap[g]?) (hZ : ∀ wa lw cw z, IRow .i16 w wa lw cw z → IRow .i16 w' wa lw cw z) (hB : ∀ ba lb cb b, IRow .i32 w ba lb cb b → IRow .i32 w' ba lb cb b) : LRow w' (some ⟨g, 0, none⟩) k cap O Z B :=
  ⟨h.1, h.2.1, h.2.2.1, fun x hx i hi => by
    obtain ⟨wa, lw, cw, ba, lb, cb, h1, h2, h3, h4, h5, h6, h7⟩ := h.2.2.2 x hx i hi
    exact ⟨wa, lw, cw, ba, lb, cb, h1, h2, fun j v hj => (World.cell?_of_block (by rw [add_block, add_block]; cases hx; exact e)).trans (h3 j v hj), hZ _ _ _ _ h4, hB _ _ _ _ h5, h6, h7⟩⟩
end Go.Proofs.Ytmcdpbnpnifdfaa

/- The first ops of a model, appended to none: one law. -/
namespace Go.Proofs.Ytmcdpbnpnifdfaa
open Go.ChangeShapes Go.WideShapes Go.ChangeAt Go.RowKit
set_option linter.unusedVariables false
theorem lrow_copy2 {w1 w w' : World} {x : Addr} {on oc k base : Nat} {v : Value} {O : Nat → Nat → Int} {Z B : Nat → List Int} (h : LRow w1 (some x) on oc O Z B) (hb : Below w1.heap.size w1 w) (hk : k ≤ on) (hown : w'.ownsRow base 39 22 v k (mc w x (k * 22))) (hv : v ≠ .slice none 0 0) :
    ∃ g cap cur, v = .slice (some ⟨g, 0, none⟩) k cap ∧ base ≤ g ∧ w'.heap[g]? = some (.cells cur 39 (0, 0)) ∧ ∀ w'' : World, Below w1.heap.size w1 w'' → w''.heap[g]? = w'.heap[g]? → LRow w'' (some ⟨g, 0, none⟩) k cap O Z B := by
  rcases hown.2 with ⟨h0, -⟩ | ⟨g, cap, cur, h1, h2, h3, h4, h5, h6, h7⟩
  · exact absurd h0 hv
  · refine ⟨g, cap, cur, h1, h2, h3, fun w'' hb2 hg2 => ⟨h4, h5, fun q => (by cases q), fun y hy i hi => ?_⟩⟩
    cases hy
    obtain ⟨wa, lw, cw, ba, lb, cb, e1, e2, e3, e4, e5, e6, e7⟩ := h.2.2.2 x rfl i (by omega)
    refine ⟨wa, lw, cw, ba, lb, cb, e1, e2, fun j u hj => ?_, e4.below hb2, e5.below hb2, e6, e7⟩
    have hj' : j < 22 := (List.getElem?_eq_some_iff.1 hj).1
    refine (World.cell?_of_block (w := w') (by rw [add_block, add_block]; exact hg2)).trans ?_
    rw [Addr.add_add]
    have e3' := e3 j u hj
    refine hown.cells (by rw [h1]; rfl) _ _ (mc_at (by omega) ?_)
    rw [← Addr.add_add]
    exact (hb.cell (World.block_lt_of_cell? w1 _ e3')).trans e3'
theorem wpList_front {ops : Array Oper} {rest : List Oper} {o : Oper} {a : Act} {Q : Exit → Act → World → Prop} {w : World} (hgd : o.guard = none) (s x : Operand) (ho : o.op = .call { callee := .builtin .append, args := #[s, x], argTypes := #[24, 24] })
    (b : Nat) (hs : a.eval s = .slice (some ⟨b, 0, none⟩) 0 0) (hb : w.heap[b]? = some (.cells #[] 39 (0, 0))) (w1 : World) (hB : Below w1.heap.size w1 w) (hb1 : w1.heap.size ≤ b) (w2 : World) (hB2 : Below w2.heap.size w2 w) (hb2 : w2.heap.size ≤ b) (oa : Option Addr) (on oc k : Nat) (O : Nat → Nat → Int) (Z B : Nat → List Int) (hL1 : LRow w1 oa on oc O Z B) (hk : k ≤ on) (h64 : on ≤ 64) (hx : a.eval x = .slice oa k oc)
    (h : ∀ (g cap : Nat) (w' : World) (cur : Array Value), w1.heap.size ≤ g → w'.heap[g]? = some (.cells cur 39 (0, 0)) → (∀ w'' : World, Below w1.heap.size w1 w'' → w''.heap[g]? = w'.heap[g]? → LRow w'' (some ⟨g, 0, none⟩) k cap O Z B) → Below w1.heap.size w1 w' → Below w2.heap.size w2 w' → wpList Try.prog ops Q rest (a.put o.dst (.slice (some ⟨g, 0, none⟩) k cap)) w') : wpList Try.prog ops Q (o :: rest) a w := by
  obtain ⟨i0, hi0, hz0, hz1, hz2⟩ := info_parts (show (Try.prog.info? 39).map (fun i => (i.zero, i.size, i.bytes)) = some (some (.agg #[.int .i64 0, .int .i64 0, .int .i64 0, .int .i64 0, .int .i64 0, .int .i64 0, .int .i64 0, .int .i64 0, .int .i64 0, .int .i64 0, .int .i64 0, .int .i64 0, .slice none 0 0, .slice none 0 0, .int .i64 0, .int .i64 0, .int .i64 0, .int .i64 0, .int .i64 0, .int .i64 0, .int .i64 0, .int .i64 0]), 22, 208) by kernel_rfl)
  have hown0 : w.ownsRow w1.heap.size 39 22 (.slice (some ⟨b, 0, none⟩) 0 0) 0 [] := ⟨rfl, .inr ⟨b, 0, #[], rfl, hb1, hb, Nat.le_refl _, by unfold maxLen; omega, rfl, rfl⟩⟩
  have hL := hL1.below hB
  have hocc := hL.1
  have hocm := hL.2.1
  cases oa with
  | none =>
    obtain rfl : oc = 0 := hL.2.2.1 rfl
    obtain rfl : on = 0 := by omega
    obtain rfl : k = 0 := by omega
    refine wpList_append_own_none hgd s x 24 ho w1.heap.size 39 i0 22 Try.underlying24 hi0 _ 0 [] hs hown0 hx ?_
    exact h b 0 w #[] hb1 hb (fun w'' _ _ => ⟨Nat.le_refl _, by unfold maxLen; omega, fun q => (by cases q), fun y hy i hi => by omega⟩) hB hB2
  | some y =>
    refine wpList_append_own _ hgd s x 24 ho w1.heap.size 39 i0 _ 22 208 Try.underlying24 hi0 hz0 hz1 hz2 rfl (by decide) (.slice (some ⟨b, 0, none⟩) 0 0) 0 [] hs hown0 y k oc (mc _ y (k * 22)) hx (mc_len _ _ _) (mc_of hL.m hk).1 (mc_of hL.m hk).2 (by unfold maxLen; omega) (by omega) hB.size ?_
    intro v' w3 hown hgr hnn
    rw [Nat.zero_add, List.nil_append] at hown
    obtain ⟨g, cap, cur, rfl, hgb, hgc, hM3⟩ := lrow_copy2 hL1 hB hk hown (fun e => by have := (hnn.1 e).1; cases this)
    exact h g cap w3 cur hgb hgc hM3 (hB.grown hgr hB.size (fun q e => by simp [Value.ownBlock] at e; omega)) (hB2.grown hgr hB2.size (fun q e => by simp [Value.ownBlock] at e; omega))
end Go.Proofs.Ytmcdpbnpnifdfaa
