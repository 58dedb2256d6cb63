/- The writer of package pack: numbers put behind its bytes. -/
import Derived.Test.YthagdpiocmcbmaaPckP
import Derived.Test.YthagdpiocmcbmaaBufA
import Derived.Deep.RegionHeld3
import Derived.Deep.RegionLawGrows
namespace Go.Proofs.Ythagdpiocmcbmaa
open Wr
open Go.ChangeShapes Go.WideShapes Go.ChangeAt Go.RowKit
set_option linter.unusedVariables false
/-- What a writer's calls leave alone: all below 'base', and all blocks of no bytes but the writer's own. -/
def Wk (base Wb : Nat) (w w' : World) : Prop := Below base w w' ∧ ∀ (k : Nat) (c : Array Value) (T : TypeId), k ≠ Wb → T ≠ 5 → w.heap[k]? = some (.cells c T (0, 0)) → w'.heap[k]? = some (.cells c T (0, 0))
theorem Wk.refl (base Wb : Nat) (w : World) : Wk base Wb w w := ⟨Below.refl _ _, fun _ _ _ _ _ h => h⟩
theorem Wk.trans {base Wb : Nat} {a b c : World} (h : Wk base Wb a b) (k : Wk base Wb b c) : Wk base Wb a c := ⟨h.1.trans k.1, fun i cs T h1 h2 h3 => k.2 i cs T h1 h2 (h.2 i cs T h1 h2 h3)⟩
theorem Wk.of {base Wb : Nat} {w w' : World} (h : Below w.heap.size w w') (hb : base ≤ w.heap.size) : Wk base Wb w w' := ⟨h.mono hb, fun k c T _ _ hk => (h.block k (lt_of_heap hk)).trans hk⟩
theorem Wk.size {base Wb : Nat} {w w' : World} (h : Wk base Wb w w') : w.heap.size ≤ w'.heap.size := h.1.size
/-- The bytes of a writer: its own, or a row that is full. -/
def Wo (w : World) (base : Nat) (v : Value) (xs : List Int) : Prop := (Wr.Own w base v xs ∧ v ≠ .slice none 0 0) ∨ ∃ d, v = .slice (some d) xs.length xs.length ∧ Wr.Row w (some d) xs.length xs.length xs
theorem Wo.below {w w' : World} {base : Nat} {v : Value} {xs : List Int} (h : Wo w base v xs) (k : Below w.heap.size w w') : Wo w' base v xs := by
  rcases h with ⟨h1, h2⟩ | ⟨d, h1, h2⟩
  · exact .inl ⟨h1.below k, h2⟩
  · exact .inr ⟨d, h1, h2.below k⟩
/-- A writer, and its bytes; with bytes of its own. -/
def Wt (w : World) (Wb base : Nat) (xs : List Int) : Prop := ∃ v, w.heap[Wb]? = some (.cells #[v] 54 (0, 0)) ∧ Wo w base v xs
def WtO (w : World) (Wb base : Nat) (xs : List Int) : Prop := ∃ v, w.heap[Wb]? = some (.cells #[v] 54 (0, 0)) ∧ Wr.Own w base v xs ∧ v ≠ .slice none 0 0
theorem WtO.wt {w : World} {Wb base : Nat} {xs : List Int} (h : WtO w Wb base xs) : Wt w Wb base xs := by
  obtain ⟨v, h1, h2⟩ := h
  exact ⟨v, h1, .inl h2⟩
theorem Wt.below {w w' : World} {Wb base : Nat} {xs : List Int} (h : Wt w Wb base xs) (k : Below w.heap.size w w') : Wt w' Wb base xs := by
  obtain ⟨v, h1, h2⟩ := h
  exact ⟨v, (k.block _ (lt_of_heap h1)).trans h1, h2.below k⟩
theorem own_blk {w : World} {base b : Nat} {v : Value} {xs : List Int} (h : Wr.Own w base v xs) (hb : v.ownBlock = some b) : base ≤ b ∧ ∃ c, w.heap[b]? = some (.cells c 5 (0, 0)) := by
  rcases h.shape with ⟨rfl, -⟩ | ⟨g, cap, rfl, h1, -, -, -, ⟨cur, h2, -⟩, -⟩
  · simp [Value.ownBlock] at hb
  · obtain rfl : g = b := by simpa [Value.ownBlock] using hb
    exact ⟨h1, cur, h2⟩
theorem ne_ty {w : World} {b k : Nat} {c d : Array Value} {S T : TypeId} (h : w.heap[b]? = some (.cells c S (0, 0))) (g : w.heap[k]? = some (.cells d T (0, 0))) (hn : T ≠ S) : k ≠ b := by
  rintro rfl
  rw [h] at g
  simp only [Option.some.injEq, Obj.cells.injEq] at g
  exact hn g.2.1.symm
/-- Nothing below 'base', no block of no bytes has turned. -/
def Wk0 (base : Nat) (w w' : World) : Prop := Below base w w' ∧ ∀ (k : Nat) (c : Array Value) (T : TypeId), T ≠ 5 → w.heap[k]? = some (.cells c T (0, 0)) → w'.heap[k]? = some (.cells c T (0, 0))
theorem Wk0.wk {base Wb : Nat} {w w' : World} (h : Wk0 base w w') : Wk base Wb w w' := ⟨h.1, fun k c T _ hT hk => h.2 k c T hT hk⟩
theorem wk_set {w : World} {base Wb i : Nat} {v : Value} (hb : base ≤ Wb) : Wk base Wb w (w.setCell ⟨Wb, i, none⟩ v) :=
  ⟨(Below.refl _ _).setCell (p := ⟨Wb, i, none⟩) hb v, fun k c T hk _ h => by rw [Below.heap_setCell _ _ _ _ hk]; exact h⟩
theorem wk0_grown {w w' : World} {base : Nat} {v : Value} {xs : List Int} (h : Wr.Own w base v xs) (g : w.grownBy w' v.ownBlock) (hb : base ≤ w.heap.size) : Wk0 base w w' := by
  refine ⟨(Below.refl _ _).grown g hb fun b e => (own_blk h e).1, fun k c T hT hk => ?_⟩
  rw [g.block k (lt_of_heap hk) (fun e => ?_)]
  · exact hk
  · obtain ⟨d, hd⟩ := (own_blk h e.symm).2
    exact ne_ty hd hk hT rfl
theorem row_cells {w : World} {ad : Addr} {m c : Nat} {ys : List Int} (hy : Wr.Row w (some ad) m c ys) : ∀ j u, (ys.map (Value.int .u8))[j]? = some u → w.cell? (ad.add j) = some u := fun j u hj => by
  obtain ⟨hl, hc, hm, hb, hn, hcell⟩ := hy
  have hj' : j < m := by
    have := (List.getElem?_eq_some_iff.1 hj).1
    simpa [hl] using this
  rw [hcell ad rfl j hj']
  simp [List.getD, show j < ys.length by omega] at hj ⊢
  exact hj
/-- 'append' of bytes, in a region that draws its order. -/
theorem step_appW {w : World} {ops : Array Oper} {o : Oper} {a : Act} {K : Act → World → Prop} {Q : Exit → Act → World → Prop} {E : Prop} (hgd : o.guard = none) (s x : Operand)
    (ho : o.op = .call { callee := .builtin .append, args := #[s, x], argTypes := #[28, 28] })
    (base : Nat) (v : Value) (xs ys : List Int) (hs : a.eval s = v) (hown : Wo w base v xs) (ad : Addr) (m c : Nat) (hx : a.eval x = .slice (some ad) m c) (hy : Wr.Row w (some ad) m c ys) (hm0 : 0 < ys.length)
    (hlen : xs.length + ys.length ≤ 140737488355328) (hbase : base ≤ w.heap.size)
    (hK : ∀ v' w', Wr.Own w' base v' (xs ++ ys) → v' ≠ .slice none 0 0 → Wk0 base w w' → K (a.put o.dst v') w') : if Region.wanted o (yielded ops a.tmps) = true then Oper.wp Try.prog o a w K Q else E := by
  obtain ⟨i0, hi, hz0, hz1, hz2⟩ := info_parts Wr.Try.infoB
  have hcs := row_cells hy
  obtain ⟨hl, hc, hm, hb, hn, hcell⟩ := hy
  rcases hown with ⟨hown, hv⟩ | ⟨d, rfl, hr⟩
  · have hw : Region.wanted o (yielded ops a.tmps) = true := by simp [Region.wanted, hgd]
    rw [if_pos hw]
    obtain ⟨v', w', hrun, r1, r2, r3⟩ := run_append_own (P := Try.prog) w base 28 o.type 5 i0 (.int .u8 0) 1 1 Try.underlying28 hi hz0 hz1 hz2 rfl (by decide) v xs.length _ hown.1 ad m c (ys.map (Value.int .u8)) (by simp [hl]) hcs (ints_oneCell _ _) (by unfold maxLen; omega) (by omega) hbase
    unfold Oper.wp
    simp [execOp, ho, resolve, invoke, builtin, hs, hx, hrun, Result.andThen]
    refine hK v' w' ⟨?_, hown.2.app hb⟩ (fun e => hv (r3.1 e).1) (wk0_grown hown r2 hbase)
    rw [List.length_append, hl, List.map_append]
    exact r1
  · refine step_append_grows hgd s x 28 ho 5 i0 (.int .u8 0) 1 1 Try.underlying28 hi hz0 hz1 hz2 rfl (by omega) (some d) xs.length xs.length (xs.map (Value.int .u8)) hs (fun h => by cases h) (by simp) (fun b hb' => by cases hb'; exact row_cells hr) ad m c (ys.map (Value.int .u8)) hx (by simp [hl]) hcs (ints_oneCell _ _) (by omega) (by unfold maxLen; omega) (by omega) ?_
    intro v' w' h1 h2
    have hO : Wr.Own w' base v' (xs ++ ys) := by
      refine ⟨⟨by simp, ?_⟩, hr.2.2.2.1.app hb⟩
      rcases h1.2 with ⟨q1, q2⟩ | ⟨g, cap, cur, q1, q2, q3, q4, q5, q6, q7⟩
      · omega
      · refine .inr ⟨g, cap, cur, ?_, by omega, q3, ?_, q5, q6, ?_⟩
        · rw [q1, List.length_append, hl]
        · rw [List.length_append, hl]; exact q4
        · rw [List.length_append, hl, q7, List.map_append]
    refine hK v' w' hO (fun e => ?_) ⟨(Below.refl _ _).grown h2 hbase (fun b e => by cases e), fun k c T _ hk => (h2.block k (lt_of_heap hk) (by simp)).trans hk⟩
    rw [e] at hO
    rcases hO.shape with ⟨-, h0⟩ | ⟨g, cap, h0, -⟩
    · have : (xs ++ ys).length = 0 := by rw [h0]; rfl
      rw [List.length_append] at this; omega
    · cases h0
theorem u64_wrap (y : Int) : IntKind.u64.wrap y = ((u64 y : Nat) : Int) := by
  unfold u64; rw [IntKind.wrap_u64]; omega
theorem eU_le (l : List Int) : (eU l).length ≤ 10 * l.length := by
  induction l with
  | nil => simp [eU]
  | cons x l ih => have := putR_ten (u64_lt x); rw [eU_cons, List.length_append, List.length_cons]; omega
theorem eS_le (l : List Int) (h : ∀ x ∈ l, -9223372036854775808 ≤ x ∧ x ≤ 9223372036854775807) : (eS l).length ≤ 10 * l.length := by
  induction l with
  | nil => simp [eS]
  | cons x l ih =>
    have hx := h x List.mem_cons_self
    have := putR_ten (foldR_lt hx.1 hx.2)
    have := ih fun y hy => h y (List.mem_cons_of_mem _ hy)
    rw [eS_cons, List.length_append, List.length_cons]; omega
theorem take_more {ys : List Int} {k : Nat} {y : Int} (h : ys[k]? = some y) : ys.take (k + 1) = ys.take k ++ [y] := by
  rw [List.take_add_one, h]; rfl
theorem own_get {w : World} {base : Nat} {v : Value} {xs : List Int} (h : Wr.Own w base v xs) (hv : v ≠ .slice none 0 0) : ∃ d cap, v = .slice (some d) xs.length cap ∧ Wr.Row w (some d) xs.length cap xs := by
  obtain ⟨a, cap, rfl, r, -⟩ := h.row
  cases a with
  | none =>
    obtain rfl : cap = 0 := r.2.2.2.2.1 rfl
    exact absurd (by rw [Nat.le_zero.1 r.2.1]) hv
  | some d => exact ⟨d, cap, rfl, r⟩
theorem own_ltr {w : World} {base : Nat} {v : Value} {xs : List Int} (h : Wr.Own w base v xs) (hv : v ≠ .slice none 0 0) : ∃ d n cap, v = .slice (some d) n cap := by
  obtain ⟨d, cap, e, -⟩ := own_get h hv
  exact ⟨d, _, cap, e⟩
theorem Wo.ltr {w : World} {base : Nat} {v : Value} {xs : List Int} (h : Wo w base v xs) : ∃ d n cap, v = .slice (some d) n cap := by
  rcases h with ⟨h1, h2⟩ | ⟨d, h1, -⟩
  · exact own_ltr h1 h2
  · exact ⟨d, _, _, h1⟩
/-- Numbers in a block of their own. -/
def Nums (w : World) (g : Nat) (ys : List Int) : Prop := w.heap[g]? = some (.cells (ys.map (Value.int .i64)).toArray 3 (0, 0))
theorem Nums.at {w : World} {g k : Nat} {ys : List Int} {y : Int} (h : Nums w g ys) (hk : ys[k]? = some y) : w.cell? ⟨g, k, none⟩ = some (.int .i64 y) := by
  rw [(cells_at h).1]; simp [hk]
theorem row_e (w : World) : Wr.Row w none 0 0 [] := ⟨rfl, Nat.le_refl _, by unfold maxLen; omega, Byt.nil, fun _ => rfl, fun x h => by cases h⟩
theorem own_oth {w w' : World} {base : Nat} {v : Value} {zs : List Int} (h : Wr.Own w base v zs) (q : ∀ (g : Nat) (c : Array Value), w.heap[g]? = some (.cells c 5 (0, 0)) → w'.heap[g]? = some (.cells c 5 (0, 0))) : Wr.Own w' base v zs := by
  refine ⟨⟨h.1.1, ?_⟩, h.2⟩
  rcases h.1.2 with h0 | ⟨g, cap, cur, h1, h2, h3, h4⟩
  · exact .inl h0
  · exact .inr ⟨g, cap, cur, h1, h2, q g cur h3, h4⟩
theorem wt_set {w : World} {Wb base : Nat} {v v2 : Value} {zs : List Int} (h : w.heap[Wb]? = some (.cells #[v] 54 (0, 0))) (own : Wr.Own w base v2 zs) (nn : v2 ≠ .slice none 0 0) : WtO (w.setCell ⟨Wb, 0, none⟩ v2) Wb base zs :=
  ⟨v2, heap_setCell_at h, own_oth own fun g c hg => by rw [Below.heap_setCell _ _ _ _ (ne_ty h hg (by decide))]; exact hg, nn⟩
def In64 (l : List Int) : Prop := ∀ x ∈ l, -9223372036854775808 ≤ x ∧ x ≤ 9223372036854775807
set_option maxHeartbeats 2000000 in
set_option maxRecDepth 100000 in
theorem unsigned_any (Wb base g n : Nat) (xs ys : List Int) (w : World) (h : Wt w Wb base xs) (hn : Nums w g ys) (hl : ys.length = n) (hg : g ≠ Wb) (hb : base ≤ Wb) (hs : xs.length + 10 * n ≤ 140737488355328) (hn2 : n ≤ 1000) (hy : True) :
    Calls Try.prog 24 #[(.pointer (some ⟨Wb, 0, none⟩)), .slice (some ⟨g, 0, none⟩) n n] w fun e w' => e = .returned (.tuple #[]) ∧ Wt w' Wb base (xs ++ eU ys) ∧ Wk base Wb w w' ∧ (0 < n → WtO w' Wb base (xs ++ eU ys)) := by
  have hl' : Hid (ys.length = n) := hl
  have hn' : Hid (Nums w g ys) := hn
  have h0 : Hid (Wt w Wb base (xs ++ eU (ys.take 0))) := by unfold Hid; simpa [eU] using h
  have hWb : Wb < w.heap.size := by obtain ⟨v, h1, -⟩ := h; exact lt_of_heap h1
  clear hl hn h
  go_enter Try.func24, Try.ntmps24
  go_wp2
  go_loopw [8] (fun i wr => ∃ k : Nat, k ≤ n ∧ i = .int .i64 k ∧ Wt wr Wb base (xs ++ eU (ys.take k)) ∧ Wk base Wb w wr ∧ (0 < k → WtO wr Wb base (xs ++ eU (ys.take k)))) (fun i _ => n - (intOf i).toNat)
  case atStart => exact ⟨0, Nat.zero_le _, rfl, h0.out, Wk.refl _ _ _, fun h => by omega⟩
  case round =>
    obtain ⟨k, hk, rfl, hT, hK, hO⟩ := hrel
    clear h0
    have hK' : Hid (Wk base Wb w wr) := hK
    by_cases hlt : k < n
    · obtain ⟨y, hky⟩ : ∃ y, ys[k]? = some y := ⟨_, List.getElem?_eq_getElem (by rw [hl'.out]; exact hlt)⟩
      have hcy := (show Nums wr g ys from hK.2 g _ _ hg (by decide) hn'.out).at hky
      have hlen : Hid ((xs ++ eU (ys.take k)).length ≤ xs.length + 10 * k) := by
        have := eU_le (ys.take k); simp only [Hid, List.length_append, List.length_take] at *; omega
      have hnext : Hid (xs ++ eU (ys.take k) ++ (putR (u64 y)) = xs ++ eU (ys.take (k + 1))) := by
        unfold Hid; rw [take_more hky, eU_app, List.append_assoc]; simp [eU]
      obtain ⟨v, h1, h2⟩ := hT
      obtain ⟨c1, f1, z1⟩ := cells_at h1
      have hu := u64_lt y
      have hw := u64_wrap y
      have hpos : Hid (0 < (putR (u64 y)).length) := putR_pos _
      have hput : Hid (((putR (u64 y))).length ≤ 10) := putR_ten (u64_lt y)
      have hS : Hid (∀ w', Below wr.heap.size wr w' → ∀ i, w'.cell? ⟨Wb, i, none⟩ = #[v][i]?) := fun w' hb' => (cells_at ((hb'.block _ (lt_of_heap h1)).trans h1)).1
      have H1 : Hid (wr.heap[Wb]? = some (.cells #[v] 54 (0, 0))) := h1
      have H2 : Hid (Wo wr base v (xs ++ eU (ys.take k))) := h2
      have hbase : Hid (base ≤ wr.heap.size) := by unfold Hid; omega
      have hD : Below wr.heap.size wr wr.drew := (Below.refl _ _).drew
      clear hK h1 h2 hky hO
      go_wp2
      go_region_law (first
        | (go_simp; go_at_call 38; refine (putU_is none 0 0 [] (u64 y) _ (row_e _) hu (by omega)).mono ?_; rintro e w1 ⟨v1, rfl, own1, nn1, b1⟩; replace hD := bt hD b1; have cq := hS.out _ hD; obtain ⟨d1, p1, rfl, r1⟩ := own_get own1 nn1)
        | (refine step_appW rfl (.tmp 16) (.tmp 19) rfl base v (xs ++ eU (ys.take k)) ([] ++ (putR (u64 y))) rfl (H2.out.below hD) d1 _ _ rfl r1 (by have := hpos.out; simpa using this) (by have := hlen.out; have := hput.out; simp only [List.nil_append]; omega) (Nat.le_trans hbase.out hD.size) ?_; intro v2 w2 own2 nn2 kw; have hW2 := kw.2 _ _ _ (by decide) ((hD.block _ z1).trans H1.out); obtain ⟨cS, f2, z2⟩ := cells_at hW2; obtain ⟨d2, n2, p2, rfl⟩ := own_ltr own2 nn2))
      all_goals
        have hE : Hid (WtO (w2.setCell ⟨Wb, 0, none⟩ (.slice (some d2) n2 p2)) Wb base (xs ++ eU (ys.take (k + 1))) ∧ Wk base Wb w (w2.setCell ⟨Wb, 0, none⟩ (.slice (some d2) n2 p2))) := ⟨wt_set hW2 (by rw [List.nil_append, hnext.out] at own2; exact own2) nn2, (hK'.out.trans (Wk.of hD hbase.out)).trans (kw.wk.trans (wk_set hb))⟩
        clear hW2 own2 kw cS r1 own1 cq c1
        go_wp2
        go_roundw
        case rel => exact ⟨k + 1, by omega, by go_num, hE.out.1.wt, hE.out.2, fun _ => hE.out.1⟩
        case measure => simp [intOf]; omega
    · have hE : Hid (Wt wr Wb base (xs ++ eU ys) ∧ (0 < n → WtO wr Wb base (xs ++ eU ys))) := by
        unfold Hid; rw [List.take_of_length_le (by rw [hl'.out]; omega)] at hT hO; exact ⟨hT, fun h => hO (by omega)⟩
      clear hT hK hO
      go_wp2
      go_end0
      exact ⟨rfl, hE.out.1, hK'.out, hE.out.2⟩
set_option maxHeartbeats 2000000 in
set_option maxRecDepth 100000 in
theorem signed_any (Wb base g n : Nat) (xs ys : List Int) (w : World) (h : Wt w Wb base xs) (hn : Nums w g ys) (hl : ys.length = n) (hg : g ≠ Wb) (hb : base ≤ Wb) (hs : xs.length + 10 * n ≤ 140737488355328) (hn2 : n ≤ 1000) (hy : In64 ys) :
    Calls Try.prog 25 #[(.pointer (some ⟨Wb, 0, none⟩)), .slice (some ⟨g, 0, none⟩) n n] w fun e w' => e = .returned (.tuple #[]) ∧ Wt w' Wb base (xs ++ eS ys) ∧ Wk base Wb w w' ∧ (0 < n → WtO w' Wb base (xs ++ eS ys)) := by
  have hl' : Hid (ys.length = n) := hl
  have hn' : Hid (Nums w g ys) := hn
  have h0 : Hid (Wt w Wb base (xs ++ eS (ys.take 0))) := by unfold Hid; simpa [eS] using h
  have hWb : Wb < w.heap.size := by obtain ⟨v, h1, -⟩ := h; exact lt_of_heap h1
  clear hl hn h
  go_enter Try.func25, Try.ntmps25
  go_wp2
  go_loopw [8] (fun i wr => ∃ k : Nat, k ≤ n ∧ i = .int .i64 k ∧ Wt wr Wb base (xs ++ eS (ys.take k)) ∧ Wk base Wb w wr ∧ (0 < k → WtO wr Wb base (xs ++ eS (ys.take k)))) (fun i _ => n - (intOf i).toNat)
  case atStart => exact ⟨0, Nat.zero_le _, rfl, h0.out, Wk.refl _ _ _, fun h => by omega⟩
  case round =>
    obtain ⟨k, hk, rfl, hT, hK, hO⟩ := hrel
    clear h0
    have hK' : Hid (Wk base Wb w wr) := hK
    by_cases hlt : k < n
    · obtain ⟨y, hky⟩ : ∃ y, ys[k]? = some y := ⟨_, List.getElem?_eq_getElem (by rw [hl'.out]; exact hlt)⟩
      have hcy := (show Nums wr g ys from hK.2 g _ _ hg (by decide) hn'.out).at hky
      have hlen : Hid ((xs ++ eS (ys.take k)).length ≤ xs.length + 10 * k) := by
        have := eS_le (ys.take k) (fun x hx => hy x (List.mem_of_mem_take hx)); simp only [Hid, List.length_append, List.length_take] at *; omega
      have hnext : Hid (xs ++ eS (ys.take k) ++ (putR (foldR y)) = xs ++ eS (ys.take (k + 1))) := by
        unfold Hid; rw [take_more hky, eS_app, List.append_assoc]; simp [eS]
      obtain ⟨v, h1, h2⟩ := hT
      obtain ⟨c1, f1, z1⟩ := cells_at h1
      have hy64 := hy y (List.mem_of_getElem? hky)
      have hpos : Hid (0 < (putR (foldR y)).length) := putR_pos _
      have hput : Hid (((putR (foldR y))).length ≤ 10) := putR_ten (foldR_lt hy64.1 hy64.2)
      have hS : Hid (∀ w', Below wr.heap.size wr w' → ∀ i, w'.cell? ⟨Wb, i, none⟩ = #[v][i]?) := fun w' hb' => (cells_at ((hb'.block _ (lt_of_heap h1)).trans h1)).1
      have H1 : Hid (wr.heap[Wb]? = some (.cells #[v] 54 (0, 0))) := h1
      have H2 : Hid (Wo wr base v (xs ++ eS (ys.take k))) := h2
      have hbase : Hid (base ≤ wr.heap.size) := by unfold Hid; omega
      have hD : Below wr.heap.size wr wr.drew := (Below.refl _ _).drew
      clear hK h1 h2 hky hO
      go_wp2
      go_region_law (first
        | (go_simp; go_at_call 39; refine (putS_is none 0 0 [] y _ (row_e _) hy64.1 hy64.2 (by omega)).mono ?_; rintro e w1 ⟨v1, rfl, own1, nn1, b1⟩; replace hD := bt hD b1; have cq := hS.out _ hD; obtain ⟨d1, p1, rfl, r1⟩ := own_get own1 nn1)
        | (refine step_appW rfl (.tmp 16) (.tmp 18) rfl base v (xs ++ eS (ys.take k)) ([] ++ (putR (foldR y))) rfl (H2.out.below hD) d1 _ _ rfl r1 (by have := hpos.out; simpa using this) (by have := hlen.out; have := hput.out; simp only [List.nil_append]; omega) (Nat.le_trans hbase.out hD.size) ?_; intro v2 w2 own2 nn2 kw; have hW2 := kw.2 _ _ _ (by decide) ((hD.block _ z1).trans H1.out); obtain ⟨cS, f2, z2⟩ := cells_at hW2; obtain ⟨d2, n2, p2, rfl⟩ := own_ltr own2 nn2))
      all_goals
        have hE : Hid (WtO (w2.setCell ⟨Wb, 0, none⟩ (.slice (some d2) n2 p2)) Wb base (xs ++ eS (ys.take (k + 1))) ∧ Wk base Wb w (w2.setCell ⟨Wb, 0, none⟩ (.slice (some d2) n2 p2))) := ⟨wt_set hW2 (by rw [List.nil_append, hnext.out] at own2; exact own2) nn2, (hK'.out.trans (Wk.of hD hbase.out)).trans (kw.wk.trans (wk_set hb))⟩
        clear hW2 own2 kw cS r1 own1 cq c1
        go_wp2
        go_roundw
        case rel => exact ⟨k + 1, by omega, by go_num, hE.out.1.wt, hE.out.2, fun _ => hE.out.1⟩
        case measure => simp [intOf]; omega
    · have hE : Hid (Wt wr Wb base (xs ++ eS ys) ∧ (0 < n → WtO wr Wb base (xs ++ eS ys))) := by
        unfold Hid; rw [List.take_of_length_le (by rw [hl'.out]; omega)] at hT hO; exact ⟨hT, fun h => hO (by omega)⟩
      clear hT hK hO
      go_wp2
      go_end0
      exact ⟨rfl, hE.out.1, hK'.out, hE.out.2⟩
end Go.Proofs.Ythagdpiocmcbmaa
