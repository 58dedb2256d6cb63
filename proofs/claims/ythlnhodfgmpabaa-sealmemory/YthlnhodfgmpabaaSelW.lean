/- The writer of package seal: numbers and spans put behind its bytes. -/
import Derived.Test.YthlnhodfgmpabaaSelP
import Derived.Test.YthlnhodfgmpabaaCeA
import Derived.Deep.RegionHeld3
import Derived.Deep.RegionLawGrows
namespace Go.Proofs.Ythlnhodfgmpabaa.Sl
open Wr
open Go.ChangeShapes Go.WideShapes Go.ChangeAt Go.RowKit
set_option linter.unusedVariables false
/-- What a writer's calls leave alone: all below 'base', and all blocks of no bytes but the writer's own. -/
def Wk (base Wb : Nat) (w w' : World) : Prop := Below base w w' ∧ ∀ (k : Nat) (c : Array Value) (T : TypeId), k ≠ Wb → T ≠ 5 → w.heap[k]? = some (.cells c T (0, 0)) → w'.heap[k]? = some (.cells c T (0, 0))
theorem Wk.refl (base Wb : Nat) (w : World) : Wk base Wb w w := ⟨Below.refl _ _, fun _ _ _ _ _ h => h⟩
theorem Wk.trans {base Wb : Nat} {a b c : World} (h : Wk base Wb a b) (k : Wk base Wb b c) : Wk base Wb a c := ⟨h.1.trans k.1, fun i cs T h1 h2 h3 => k.2 i cs T h1 h2 (h.2 i cs T h1 h2 h3)⟩
theorem Wk.of {base Wb : Nat} {w w' : World} (h : Below w.heap.size w w') (hb : base ≤ w.heap.size) : Wk base Wb w w' := ⟨h.mono hb, fun k c T _ _ hk => (h.block k (lt_of_heap hk)).trans hk⟩
theorem Wk.size {base Wb : Nat} {w w' : World} (h : Wk base Wb w w') : w.heap.size ≤ w'.heap.size := h.1.size
/-- The bytes of a writer: its own, or a row that is full. -/
def Wo (w : World) (base : Nat) (v : Value) (xs : List Int) : Prop := (Wr.Own w base v xs ∧ v ≠ .slice none 0 0) ∨ ∃ d, v = .slice (some d) xs.length xs.length ∧ Wr.Row w (some d) xs.length xs.length xs
theorem Wo.below {w w' : World} {base : Nat} {v : Value} {xs : List Int} (h : Wo w base v xs) (k : Below w.heap.size w w') : Wo w' base v xs := by
  rcases h with ⟨h1, h2⟩ | ⟨d, h1, h2⟩
  · exact .inl ⟨h1.below k, h2⟩
  · exact .inr ⟨d, h1, h2.below k⟩
/-- A writer, and its bytes; with bytes of its own. -/
def Wt (w : World) (Wb base : Nat) (xs : List Int) : Prop := ∃ v, w.heap[Wb]? = some (.cells #[v] 53 (0, 0)) ∧ Wo w base v xs
def WtO (w : World) (Wb base : Nat) (xs : List Int) : Prop := ∃ v, w.heap[Wb]? = some (.cells #[v] 53 (0, 0)) ∧ Wr.Own w base v xs ∧ v ≠ .slice none 0 0
theorem WtO.wt {w : World} {Wb base : Nat} {xs : List Int} (h : WtO w Wb base xs) : Wt w Wb base xs := by
  obtain ⟨v, h1, h2⟩ := h
  exact ⟨v, h1, .inl h2⟩
theorem Wt.below {w w' : World} {Wb base : Nat} {xs : List Int} (h : Wt w Wb base xs) (k : Below w.heap.size w w') : Wt w' Wb base xs := by
  obtain ⟨v, h1, h2⟩ := h
  exact ⟨v, (k.block _ (lt_of_heap h1)).trans h1, h2.below k⟩
theorem own_blk {w : World} {base b : Nat} {v : Value} {xs : List Int} (h : Wr.Own w base v xs) (hb : v.ownBlock = some b) : base ≤ b ∧ ∃ c, w.heap[b]? = some (.cells c 5 (0, 0)) := by
  rcases h.shape with ⟨rfl, -⟩ | ⟨g, cap, rfl, h1, -, -, -, ⟨cur, h2, -⟩, -⟩
  · simp [Value.ownBlock] at hb
  · obtain rfl : g = b := by simpa [Value.ownBlock] using hb
    exact ⟨h1, cur, h2⟩
theorem ne_ty {w : World} {b k : Nat} {c d : Array Value} {S T : TypeId} (h : w.heap[b]? = some (.cells c S (0, 0))) (g : w.heap[k]? = some (.cells d T (0, 0))) (hn : T ≠ S) : k ≠ b := by
  rintro rfl
  rw [h] at g
  simp only [Option.some.injEq, Obj.cells.injEq] at g
  exact hn g.2.1.symm
/-- Nothing below 'base', no block of no bytes has turned. -/
def Wk0 (base : Nat) (w w' : World) : Prop := Below base w w' ∧ ∀ (k : Nat) (c : Array Value) (T : TypeId), T ≠ 5 → w.heap[k]? = some (.cells c T (0, 0)) → w'.heap[k]? = some (.cells c T (0, 0))
theorem Wk0.wk {base Wb : Nat} {w w' : World} (h : Wk0 base w w') : Wk base Wb w w' := ⟨h.1, fun k c T _ hT hk => h.2 k c T hT hk⟩
theorem wk_set {w : World} {base Wb i : Nat} {v : Value} (hb : base ≤ Wb) : Wk base Wb w (w.setCell ⟨Wb, i, none⟩ v) :=
  ⟨(Below.refl _ _).setCell (p := ⟨Wb, i, none⟩) hb v, fun k c T hk _ h => by rw [Below.heap_setCell _ _ _ _ hk]; exact h⟩
theorem wk0_grown {w w' : World} {base : Nat} {v : Value} {xs : List Int} (h : Wr.Own w base v xs) (g : w.grownBy w' v.ownBlock) (hb : base ≤ w.heap.size) : Wk0 base w w' := by
  refine ⟨(Below.refl _ _).grown g hb fun b e => (own_blk h e).1, fun k c T hT hk => ?_⟩
  rw [g.block k (lt_of_heap hk) (fun e => ?_)]
  · exact hk
  · obtain ⟨d, hd⟩ := (own_blk h e.symm).2
    exact ne_ty hd hk hT rfl
theorem row_cells {w : World} {ad : Addr} {m c : Nat} {ys : List Int} (hy : Wr.Row w (some ad) m c ys) : ∀ j u, (ys.map (Value.int .u8))[j]? = some u → w.cell? (ad.add j) = some u := fun j u hj => by
  obtain ⟨hl, hc, hm, hb, hn, hcell⟩ := hy
  have hj' : j < m := by
    have := (List.getElem?_eq_some_iff.1 hj).1
    simpa [hl] using this
  rw [hcell ad rfl j hj']
  simp [List.getD, show j < ys.length by omega] at hj ⊢
  exact hj
/-- 'append' of bytes, in a region that draws its order. -/
theorem step_appW {w : World} {ops : Array Oper} {o : Oper} {a : Act} {K : Act → World → Prop} {Q : Exit → Act → World → Prop} {E : Prop} (hgd : o.guard = none) (s x : Operand)
    (ho : o.op = .call { callee := .builtin .append, args := #[s, x], argTypes := #[27, 27] })
    (base : Nat) (v : Value) (xs ys : List Int) (hs : a.eval s = v) (hown : Wo w base v xs) (ad : Addr) (m c : Nat) (hx : a.eval x = .slice (some ad) m c) (hy : Wr.Row w (some ad) m c ys) (hm0 : 0 < ys.length)
    (hlen : xs.length + ys.length ≤ 140737488355328) (hbase : base ≤ w.heap.size)
    (hK : ∀ v' w', Wr.Own w' base v' (xs ++ ys) → v' ≠ .slice none 0 0 → Wk0 base w w' → K (a.put o.dst v') w') : if Region.wanted o (yielded ops a.tmps) = true then Oper.wp Try.prog o a w K Q else E := by
  obtain ⟨i0, hi, hz0, hz1, hz2⟩ := info_parts Wr.Try.infoB
  have hcs := row_cells hy
  obtain ⟨hl, hc, hm, hb, hn, hcell⟩ := hy
  rcases hown with ⟨hown, hv⟩ | ⟨d, rfl, hr⟩
  · have hw : Region.wanted o (yielded ops a.tmps) = true := by simp [Region.wanted, hgd]
    rw [if_pos hw]
    obtain ⟨v', w', hrun, r1, r2, r3⟩ := run_append_own (P := Try.prog) w base 27 o.type 5 i0 (.int .u8 0) 1 1 Try.underlying27 hi hz0 hz1 hz2 rfl (by decide) v xs.length _ hown.1 ad m c (ys.map (Value.int .u8)) (by simp [hl]) hcs (ints_oneCell _ _) (by unfold maxLen; omega) (by omega) hbase
    unfold Oper.wp
    simp [execOp, ho, resolve, invoke, builtin, hs, hx, hrun, Result.andThen]
    refine hK v' w' ⟨?_, hown.2.app hb⟩ (fun e => hv (r3.1 e).1) (wk0_grown hown r2 hbase)
    rw [List.length_append, hl, List.map_append]
    exact r1
  · refine step_append_grows hgd s x 27 ho 5 i0 (.int .u8 0) 1 1 Try.underlying27 hi hz0 hz1 hz2 rfl (by omega) (some d) xs.length xs.length (xs.map (Value.int .u8)) hs (fun h => by cases h) (by simp) (fun b hb' => by cases hb'; exact row_cells hr) ad m c (ys.map (Value.int .u8)) hx (by simp [hl]) hcs (ints_oneCell _ _) (by omega) (by unfold maxLen; omega) (by omega) ?_
    intro v' w' h1 h2
    have hO : Wr.Own w' base v' (xs ++ ys) := by
      refine ⟨⟨by simp, ?_⟩, hr.2.2.2.1.app hb⟩
      rcases h1.2 with ⟨q1, q2⟩ | ⟨g, cap, cur, q1, q2, q3, q4, q5, q6, q7⟩
      · omega
      · refine .inr ⟨g, cap, cur, ?_, by omega, q3, ?_, q5, q6, ?_⟩
        · rw [q1, List.length_append, hl]
        · rw [List.length_append, hl]; exact q4
        · rw [List.length_append, hl, q7, List.map_append]
    refine hK v' w' hO (fun e => ?_) ⟨(Below.refl _ _).grown h2 hbase (fun b e => by cases e), fun k c T _ hk => (h2.block k (lt_of_heap hk) (by simp)).trans hk⟩
    rw [e] at hO
    rcases hO.shape with ⟨-, h0⟩ | ⟨g, cap, h0, -⟩
    · have : (xs ++ ys).length = 0 := by rw [h0]; rfl
      rw [List.length_append] at this; omega
    · cases h0
theorem u64_wrap (y : Int) : IntKind.u64.wrap y = ((u64 y : Nat) : Int) := by
  unfold u64; rw [IntKind.wrap_u64]; omega
theorem take_more {α : Type} {ys : List α} {k : Nat} {y : α} (h : ys[k]? = some y) : ys.take (k + 1) = ys.take k ++ [y] := by
  rw [List.take_add_one, h]; rfl
theorem own_get {w : World} {base : Nat} {v : Value} {xs : List Int} (h : Wr.Own w base v xs) (hv : v ≠ .slice none 0 0) : ∃ d cap, v = .slice (some d) xs.length cap ∧ Wr.Row w (some d) xs.length cap xs := by
  obtain ⟨a, cap, rfl, r, -⟩ := h.row
  cases a with
  | none =>
    obtain rfl : cap = 0 := r.2.2.2.2.1 rfl
    exact absurd (by rw [Nat.le_zero.1 r.2.1]) hv
  | some d => exact ⟨d, cap, rfl, r⟩
theorem own_ltr {w : World} {base : Nat} {v : Value} {xs : List Int} (h : Wr.Own w base v xs) (hv : v ≠ .slice none 0 0) : ∃ d n cap, v = .slice (some d) n cap := by
  obtain ⟨d, cap, e, -⟩ := own_get h hv
  exact ⟨d, _, cap, e⟩
theorem row_e (w : World) : Wr.Row w none 0 0 [] := ⟨rfl, Nat.le_refl _, by unfold maxLen; omega, Byt.nil, fun _ => rfl, fun x h => by cases h⟩
theorem own_oth {w w' : World} {base : Nat} {v : Value} {zs : List Int} (h : Wr.Own w base v zs) (q : ∀ (g : Nat) (c : Array Value), w.heap[g]? = some (.cells c 5 (0, 0)) → w'.heap[g]? = some (.cells c 5 (0, 0))) : Wr.Own w' base v zs := by
  refine ⟨⟨h.1.1, ?_⟩, h.2⟩
  rcases h.1.2 with h0 | ⟨g, cap, cur, h1, h2, h3, h4⟩
  · exact .inl h0
  · exact .inr ⟨g, cap, cur, h1, h2, q g cur h3, h4⟩
theorem wt_set {w : World} {Wb base : Nat} {v v2 : Value} {zs : List Int} (h : w.heap[Wb]? = some (.cells #[v] 53 (0, 0))) (own : Wr.Own w base v2 zs) (nn : v2 ≠ .slice none 0 0) : WtO (w.setCell ⟨Wb, 0, none⟩ v2) Wb base zs :=
  ⟨v2, heap_setCell_at h, own_oth own fun g c hg => by rw [Below.heap_setCell _ _ _ _ (ne_ty h hg (by decide))]; exact hg, nn⟩
theorem Wt.lt {w : World} {Wb base : Nat} {xs : List Int} (h : Wt w Wb base xs) : Wb < w.heap.size := by obtain ⟨v, h1, -⟩ := h; exact lt_of_heap h1
theorem Wt.al {w : World} {Wb base : Nat} {xs : List Int} (h : Wt w Wb base xs) (o : Obj) : Wt (w.alloc o) Wb base xs := h.below (bal _ _)
theorem WtO.lt {w : World} {Wb base : Nat} {xs : List Int} (h : WtO w Wb base xs) : Wb < w.heap.size := h.wt.lt
theorem WtO.below {w w' : World} {Wb base : Nat} {xs : List Int} (h : WtO w Wb base xs) (k : Below w.heap.size w w') : WtO w' Wb base xs := by
  obtain ⟨v, h1, h2, h3⟩ := h
  exact ⟨v, (k.block _ (lt_of_heap h1)).trans h1, h2.below k, h3⟩
theorem WtO.al {w : World} {Wb base : Nat} {xs : List Int} (h : WtO w Wb base xs) (o : Obj) : WtO (w.alloc o) Wb base xs := h.below (bal _ _)
theorem wk_al {w : World} {base Wb : Nat} (o : Obj) (hb : base ≤ w.heap.size) : Wk base Wb w (w.alloc o) := Wk.of (bal _ _) hb
set_option maxHeartbeats 2000000 in
set_option maxRecDepth 100000 in
theorem unsigned_any (Wb base : Nat) (xs : List Int) (y : Int) (w : World) (h : Wt w Wb base xs) (hb : base ≤ Wb) (hs : xs.length + 10 ≤ 140737488355328) :
    Calls Try.prog 37 #[(.pointer (some ⟨Wb, 0, none⟩)), .int .i64 y] w fun e w' => e = .returned (.tuple #[]) ∧ WtO w' Wb base (xs ++ putR (u64 y)) ∧ Wk base Wb w w' := by
  have hWb := h.lt
  obtain ⟨v, h1, h2⟩ := h
  obtain ⟨c1, f1, z1⟩ := cells_at h1
  have hu := u64_lt y
  have hw := u64_wrap y
  have hpos : Hid (0 < (putR (u64 y)).length) := putR_pos _
  have hput : Hid (((putR (u64 y))).length ≤ 10) := putR_ten (u64_lt y)
  have hS : Hid (∀ w', Below w.heap.size w w' → ∀ i, w'.cell? ⟨Wb, i, none⟩ = #[v][i]?) := fun w' hb' => (cells_at ((hb'.block _ (lt_of_heap h1)).trans h1)).1
  have H1 : Hid (w.heap[Wb]? = some (.cells #[v] 53 (0, 0))) := h1
  have H2 : Hid (Wo w base v xs) := h2
  have hbase : Hid (base ≤ w.heap.size) := by unfold Hid; omega
  have hD : Below w.heap.size w w.drew := (Below.refl _ _).drew
  clear h1 h2
  go_enter Try.func37, Try.ntmps37
  go_wp2
  go_region_law (first
    | (go_simp; go_at_call 52; refine (putU_is none 0 0 [] (u64 y) _ (row_e _) hu (by omega)).mono ?_; rintro e w1 ⟨v1, rfl, own1, nn1, b1⟩; replace hD := bt hD b1; have cq := hS.out _ hD; obtain ⟨d1, p1, rfl, r1⟩ := own_get own1 nn1)
    | (refine step_appW rfl (.tmp 8) (.tmp 11) rfl base v xs ([] ++ (putR (u64 y))) rfl (H2.out.below hD) d1 _ _ rfl r1 (by have := hpos.out; simpa using this) (by have := hput.out; simp only [List.nil_append]; omega) (Nat.le_trans hbase.out hD.size) ?_; intro v2 w2 own2 nn2 kw; have hW2 := kw.2 _ _ _ (by decide) ((hD.block _ z1).trans H1.out); obtain ⟨cS, f2, z2⟩ := cells_at hW2; obtain ⟨d2, n2, p2, rfl⟩ := own_ltr own2 nn2))
  all_goals
    have hE : Hid (WtO (w2.setCell ⟨Wb, 0, none⟩ (.slice (some d2) n2 p2)) Wb base (xs ++ putR (u64 y)) ∧ Wk base Wb w (w2.setCell ⟨Wb, 0, none⟩ (.slice (some d2) n2 p2))) := ⟨wt_set hW2 (by rw [List.nil_append] at own2; exact own2) nn2, (Wk.of hD hbase.out).trans (kw.wk.trans (wk_set hb))⟩
    clear hW2 own2 kw cS r1 own1 cq c1
    go_wp2
    go_end0
    exact ⟨rfl, hE.out.1, hE.out.2⟩
set_option maxHeartbeats 2000000 in
set_option maxRecDepth 100000 in
theorem signed_any (Wb base : Nat) (xs : List Int) (y : Int) (w : World) (h : Wt w Wb base xs) (hb : base ≤ Wb) (hs : xs.length + 10 ≤ 140737488355328) (y0 : -9223372036854775808 ≤ y) (y1 : y ≤ 9223372036854775807) :
    Calls Try.prog 53 #[(.pointer (some ⟨Wb, 0, none⟩)), .int .i64 y] w fun e w' => e = .returned (.tuple #[]) ∧ WtO w' Wb base (xs ++ putR (foldR y)) ∧ Wk base Wb w w' := by
  have hWb := h.lt
  obtain ⟨v, h1, h2⟩ := h
  obtain ⟨c1, f1, z1⟩ := cells_at h1
  have hpos : Hid (0 < (putR (foldR y)).length) := putR_pos _
  have hput : Hid (((putR (foldR y))).length ≤ 10) := putR_ten (foldR_lt y0 y1)
  have hS : Hid (∀ w', Below w.heap.size w w' → ∀ i, w'.cell? ⟨Wb, i, none⟩ = #[v][i]?) := fun w' hb' => (cells_at ((hb'.block _ (lt_of_heap h1)).trans h1)).1
  have H1 : Hid (w.heap[Wb]? = some (.cells #[v] 53 (0, 0))) := h1
  have H2 : Hid (Wo w base v xs) := h2
  have hbase : Hid (base ≤ w.heap.size) := by unfold Hid; omega
  have hD : Below w.heap.size w w.drew := (Below.refl _ _).drew
  clear h1 h2
  go_enter Try.func53, Try.ntmps53
  go_wp2
  go_region_law (first
    | (go_simp; go_at_call 67; refine (putS_is none 0 0 [] y _ (row_e _) y0 y1 (by omega)).mono ?_; rintro e w1 ⟨v1, rfl, own1, nn1, b1⟩; replace hD := bt hD b1; have cq := hS.out _ hD; obtain ⟨d1, p1, rfl, r1⟩ := own_get own1 nn1)
    | (refine step_appW rfl (.tmp 8) (.tmp 10) rfl base v xs ([] ++ (putR (foldR y))) rfl (H2.out.below hD) d1 _ _ rfl r1 (by have := hpos.out; simpa using this) (by have := hput.out; simp only [List.nil_append]; omega) (Nat.le_trans hbase.out hD.size) ?_; intro v2 w2 own2 nn2 kw; have hW2 := kw.2 _ _ _ (by decide) ((hD.block _ z1).trans H1.out); obtain ⟨cS, f2, z2⟩ := cells_at hW2; obtain ⟨d2, n2, p2, rfl⟩ := own_ltr own2 nn2))
  all_goals
    have hE : Hid (WtO (w2.setCell ⟨Wb, 0, none⟩ (.slice (some d2) n2 p2)) Wb base (xs ++ putR (foldR y)) ∧ Wk base Wb w (w2.setCell ⟨Wb, 0, none⟩ (.slice (some d2) n2 p2))) := ⟨wt_set hW2 (by rw [List.nil_append] at own2; exact own2) nn2, (Wk.of hD hbase.out).trans (kw.wk.trans (wk_set hb))⟩
    clear hW2 own2 kw cS r1 own1 cq c1
    go_wp2
    go_end0
    exact ⟨rfl, hE.out.1, hE.out.2⟩
theorem flat_front {α : Type} {en : α → List Int} {l : List α} {c k : Nat} (h : ∀ x ∈ l, (en x).length ≤ c) : ((l.take k).flatMap en).length ≤ c * k := by
  have h1 := flat_le (en := en) (l.take k) fun x hx => h x (List.mem_of_mem_take hx)
  have h2 : c * (l.take k).length ≤ c * k := Nat.mul_le_mul_left c (by rw [List.length_take]; omega)
  omega
set_option maxHeartbeats 2000000 in
set_option maxRecDepth 100000 in
theorem spans_any (Wb base : Nat) (xs : List Int) (a : Option Addr) (n c : Nat) (R : List (Int × Int)) (w : World) (h : WtO w Wb base xs) (hb : base ≤ Wb) (hE : ∀ w', Wk base Wb w w' → ERow 2 scs w' a n c R) (h64 : ∀ s ∈ R, S64 s) (hn2 : n ≤ 1000) (hs : xs.length + 20 * n + 100 ≤ 140737488355328) :
    Calls Try.prog 38 #[(.pointer (some ⟨Wb, 0, none⟩)), .slice a n c] w fun e w' => e = .returned (.tuple #[]) ∧ WtO w' Wb base (xs ++ R.flatMap eSp) ∧ Wk base Wb w w' := by
  have hlt := h.lt
  have HE : Hid (∀ w', Wk base Wb w w' → ERow 2 scs w' a n c R) := hE
  have hl : Hid (R.length = n) := (hE w (Wk.refl _ _ _)).1
  have hc0 := (hE w (Wk.refl _ _ _)).2.1
  have hc1 := (hE w (Wk.refl _ _ _)).2.2.1
  unfold maxLen at hc1
  have H64 : Hid (∀ s ∈ R, S64 s) := h64
  have T0 : Hid (WtO w Wb base (xs ++ (R.take 0).flatMap eSp)) := by unfold Hid; simpa using h
  clear h hE h64
  go_enter Try.func38, Try.ntmps38
  go_wp2
  go_loopw [8] (fun i wr => ∃ k : Nat, k ≤ n ∧ i = .int .i64 k ∧ WtO wr Wb base (xs ++ (R.take k).flatMap eSp) ∧ Wk base Wb w wr) (fun i _ => n - (intOf i).toNat)
  case atStart => exact ⟨0, Nat.zero_le _, rfl, T0.out, Wk.refl _ _ _⟩
  case round =>
    obtain ⟨k, hk, rfl, hT, hK⟩ := hrel
    clear T0
    have hltr := hT.lt
    have hT' : Hid (WtO wr Wb base (xs ++ (R.take k).flatMap eSp)) := hT
    have hK' : Hid (Wk base Wb w wr) := hK
    by_cases hlk : k < n
    · obtain ⟨x, p, rfl, hp, -, hcx⟩ := (HE.out _ hK).at hlk
      obtain ⟨lo, hi⟩ := p
      have hS64 : Hid (S64 (lo, hi)) := H64.out _ (List.mem_of_getElem? hp)
      have hcell : Hid (∀ j v, [Value.int .i64 lo, .int .i64 hi][j]? = some v → wr.cell? ((x.add (k * 2)).add j) = some v) := hcx
      have hlen : Hid ((xs ++ (R.take k).flatMap eSp).length ≤ xs.length + 20 * k) := by
        have := flat_front (k := k) (en := eSp) (c := 20) (l := R) (fun s hs => eSp_le (H64.out s hs)); unfold Hid; rw [List.length_append]; omega
      have hnext : Hid (xs ++ (R.take k).flatMap eSp ++ putR (foldR lo) ++ putR (foldR hi) = xs ++ (R.take (k + 1)).flatMap eSp) := by
        unfold Hid; rw [take_more hp, List.flatMap_append]; simp [eSp]
      have hp1 : Hid ((putR (foldR lo)).length ≤ 10) := putR_ten (foldR_lt hS64.out.1.1 hS64.out.1.2)
      have B0 : Hid ((wr.alloc (.cells #[.int .i64 lo, .int .i64 hi] 44)).heap[wr.heap.size]? = some (.cells #[.int .i64 lo, .int .i64 hi] 44 (0, 0))) := heap_alloc_new wr _
      obtain ⟨c1, f1, y1⟩ := cells_at B0.out
      clear hT hK hp hcx
      go_wp2_with (first
        | (refine wpList_load_any rfl 44 (.tmp 10) rfl _ rfl [.int .i64 lo, .int .i64 hi] _ hcell.out Try.underlying44 rfl (by kernel_rfl) ?_)
        | (refine wpList_st_new rfl 44 (.tmp 5) (.tmp 11) rfl wr _ #[.int .i64 lo, .int .i64 hi] rfl rfl (by kernel_rfl) rfl (by simp [Value.oneCell']) ?_))
      refine (signed_any Wb base _ lo _ (hT'.out.al _).wt hb (by have := hlen.out; omega) hS64.out.1.1 hS64.out.1.2).mono ?_
      rintro e w1 ⟨rfl, T1, K1⟩
      have B1 : Hid (w1.heap[wr.heap.size]? = some (.cells #[.int .i64 lo, .int .i64 hi] 44 (0, 0))) := K1.2 _ _ _ (by omega) (by decide) B0.out
      have t1 : Hid (WtO w1 Wb base _) := T1
      have k1 : Hid (Wk base Wb w w1) := hK'.out.trans ((wk_al _ (by omega)).trans K1)
      clear T1 K1 hT' B0 c1 f1 y1
      obtain ⟨c1, f1, y1⟩ := cells_at B1.out
      go_wp2_with fail
      refine (signed_any Wb base _ hi _ t1.out.wt hb (by have := hlen.out; have := hp1.out; rw [List.length_append]; omega) hS64.out.2.1 hS64.out.2.2).mono ?_
      rintro e w2 ⟨rfl, T2, K2⟩
      have t2 : Hid (WtO w2 Wb base (xs ++ (R.take (k + 1)).flatMap eSp)) := hnext.out ▸ T2
      have k2 : Hid (Wk base Wb w w2) := k1.out.trans K2
      clear T2 K2 t1 B1 c1 f1 y1
      go_wp2
      go_roundw
      case rel => exact ⟨k + 1, by omega, by go_num, t2.out, k2.out⟩
      case measure => simp [intOf]; omega
    · have t2 : Hid (WtO wr Wb base (xs ++ R.flatMap eSp)) := by
        unfold Hid; rw [List.take_of_length_le (by rw [hl.out]; omega)] at hT; exact hT
      clear hT hK hT'
      go_wp2
      go_end0
      exact ⟨rfl, t2.out, hK'.out⟩
end Go.Proofs.Ythlnhodfgmpabaa.Sl
