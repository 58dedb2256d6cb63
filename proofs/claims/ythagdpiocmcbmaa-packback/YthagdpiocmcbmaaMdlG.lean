/- goThrough of package model: what it answers. -/
import Derived.Test.YthagdpiocmcbmaaMdlR
import Derived.Deep.WholeRow
namespace Go.Proofs.Ythagdpiocmcbmaa
open Go.ChangeShapes Go.WideShapes Go.ChangeAt Go.RowKit
set_option linter.unusedVariables false
theorem St.drop2 {w0 w : World} {a b : Nat × Array Value × TypeId} {l : List (Nat × Array Value × TypeId)} (h : St w0 w (a :: b :: l)) : St w0 w (a :: l) :=
  h.sub fun z hz => by simp only [List.mem_cons] at *; rcases hz with h | h <;> simp [h]
theorem St.toFront {w0 w : World} {a b c : Nat × Array Value × TypeId} {l : List (Nat × Array Value × TypeId)} (h : St w0 w (a :: b :: c :: l)) : St w0 w (b :: c :: a :: l) :=
  h.sub fun z hz => by simp only [List.mem_cons] at *; rcases hz with h | h | h | h <;> simp [h]
theorem set5b {w0 w : World} {B N M : Nat} {a b c d e : Value} (h : Below B w0 w) (hN : B ≤ N) (hM : B ≤ M) : Below B w0 (((((w.setCell ⟨N, 0, none⟩ a).setCell ⟨N, 1, none⟩ b).setCell ⟨M, 0, none⟩ c).setCell ⟨M, 1, none⟩ d).setCell ⟨M, 2, none⟩ e) :=
  ((((h.setCell (p := ⟨N, 0, none⟩) hN a).setCell (p := ⟨N, 1, none⟩) hN b).setCell (p := ⟨M, 0, none⟩) hM c).setCell (p := ⟨M, 1, none⟩) hM d).setCell (p := ⟨M, 2, none⟩) hM e
theorem set5h {w : World} {g N M : Nat} {o : Obj} {a b c d e : Value} (h : w.heap[g]? = some o) (hN : g ≠ N) (hM : g ≠ M) : (((((w.setCell ⟨N, 0, none⟩ a).setCell ⟨N, 1, none⟩ b).setCell ⟨M, 0, none⟩ c).setCell ⟨M, 1, none⟩ d).setCell ⟨M, 2, none⟩ e).heap[g]? = some o := by
  rw [Below.heap_setCell _ _ _ _ hM, Below.heap_setCell _ _ _ _ hM, Below.heap_setCell _ _ _ _ hM, Below.heap_setCell _ _ _ _ hN, Below.heap_setCell _ _ _ _ hN]
  exact h
theorem wpList_st_new {P : Program} {ops : Array Oper} {rest : List Oper} {o : Oper} {a : Act} {Q : Exit → Act → World → Prop} (hgd : o.guard = none) (ty : TypeId) (x y : Operand) (ho : o.op = .store ty x y) (w : World) (c cells : Array Value)
    (hx : a.eval x = .pointer (some ⟨w.heap.size, 0, none⟩)) (hy : a.eval y = .agg cells) (hi : (P.info? ty).map (·.size) = some cells.size) (hold : c.size = cells.size) (h1 : cells.all (·.oneCell') = true)
    (h : wpList P ops Q rest (a.put o.dst undef) (w.alloc (.cells cells ty))) : wpList P ops Q (o :: rest) a (w.alloc (.cells c ty)) :=
  wpList_store_row hgd ty x y ho w.heap.size cells hx hy ty c (heap_alloc_new w _) hi hold h1 (by rw [World.setRow_alloc_new]; exact h)
/-- 'make' of shapes, none yet. -/
theorem wpList_mk3 {w : World} {ops : Array Oper} {rest : List Oper} {o : Oper} {a : Act} {Q : Exit → Act → World → Prop} (hg : o.guard = none) (l c : Operand) (hop : o.op = Op.makeSlice 61 l c)
    (m : Nat) (C : Int) (hl : a.eval l = .int .i64 0) (hc : a.eval c = .int .i64 C) (hC : C = (m : Int)) (hm : m ≤ 1000)
    (hK : ∀ cur : Array Value, cur.size = m * 3 → wpList Try.prog ops Q rest (a.put o.dst (.slice (some ⟨w.heap.size, 0, none⟩) 0 m)) (w.alloc (.cells cur 23))) :
    wpList Try.prog ops Q (o :: rest) a w := by
  obtain ⟨i0, hi0, hz0, hz1, hz2⟩ := info_parts (show (Try.prog.info? 23).map (fun i => (i.zero, i.size, i.bytes)) = some (some (.agg #[.int .i64 0, .int .i64 0, .int .i64 0]), 3, 24) by kernel_rfl)
  subst hC
  refine wpList_plain hg fun K hK' => ?_
  have hr := run_make (P := Try.prog) w 61 23 i0 (.agg #[.int .i64 0, .int .i64 0, .int .i64 0]) Try.underlying61 hi0 hz0 .i64 .i64 ((0 : Nat) : Int) m (by omega) (by omega) (by rw [hz2]; omega) (by omega)
  simp only [Int.toNat_natCast, hz1] at hr
  unfold Oper.wp
  simp only [execOp, hop, hl, hc]
  simp [Result.andThen]
  have hr' := hr
  simp only [Int.natCast_zero] at hr'
  rw [hr']
  exact hK' _ _ (hK _ (by rw [size_madeCells]))
/-- 'append' of one shape, where there is room. -/
theorem wpList_ap3 {w : World} {ops : Array Oper} {rest : List Oper} {o : Oper} {a : Act} {Q : Exit → Act → World → Prop} (hg : o.guard = none) (s x : Operand) (hop : o.op = Op.call { callee := Callee.builtin Builtin.append, args := #[s, x], argTypes := #[61, 61] })
    (g n cap : Nat) (hs : a.eval s = .slice (some ⟨g, 0, none⟩) n cap) (b : Nat) (u v z : Value) (hx : a.eval x = .slice (some ⟨b, 0, none⟩) 1 1) (hb : w.heap[b]? = some (.cells #[u, v, z] 23 (0, 0))) (h1 : ∀ q ∈ [u, v, z], q.oneCell' = true)
    (cur : Array Value) (hcur : w.heap[g]? = some (.cells cur 23 (0, 0))) (hsz : n * 3 + 3 ≤ cur.size) (hroom : n + 1 ≤ cap)
    (hK : wpList Try.prog ops Q rest (a.put o.dst (.slice (some ⟨g, 0, none⟩) (n + 1) cap)) (w.setCells g (0 + n * 3) [u, v, z])) : wpList Try.prog ops Q (o :: rest) a w := by
  obtain ⟨i0, hi0, hz0, hz1, hz2⟩ := info_parts (show (Try.prog.info? 23).map (fun i => (i.zero, i.size, i.bytes)) = some (some (.agg #[.int .i64 0, .int .i64 0, .int .i64 0]), 3, 24) by kernel_rfl)
  refine wpList_plain hg fun K hK' => ?_
  have := step_append_room (P := Try.prog) (ops := ops) (o := o) (a := a) (w := w) (K := K) (Q := Q) (E := False) hg s x 61 hop 23 i0 3 Try.underlying61 hi0 hz1 g 0 n cap hs ⟨b, 0, none⟩ 1 1 [u, v, z] hx rfl (new_cells hb) h1 hroom (spare_of hcur hsz) (hK' _ _ hK)
  rwa [if_pos (by simp [Region.wanted, hg])] at this
/-- Shapes that a call answers. -/
def Shp (w : World) (base : Nat) (v : Value) (L : List (Int × Int × Int)) : Prop :=
  (v = .slice none 0 0 ∧ L = []) ∨ ∃ (g cap : Nat) (cur : Array Value), v = .slice (some ⟨g, 0, none⟩) L.length cap ∧ base ≤ g ∧ w.heap[g]? = some (.cells cur 23 (0, 0)) ∧ Cu cur cap L ∧ cap ≤ 1000
/-- The whole answer. -/
def gtR (O : Nat → Nat → Int) (h w c lo hi ot : Int) (on : Nat) : Int × Int × List (Int × Int × Int) × Int := if ouE h w c lo hi ot on ≠ 0 then (ouE h w c lo hi ot on, 0, [], 0) else stG O (h, w, c) on
set_option maxHeartbeats 4000000 in
set_option maxRecDepth 100000 in
theorem gothrough_any (h w c lo hi ot : Int) (oa : Option Addr) (on oc : Nat) (O : Nat → Nat → Int) (W : World) (hM : MRow W oa on oc O) :
    Calls Try.prog 23 #[.agg #[.int .i64 h, .int .i64 w, .int .i64 c, .int .i64 lo, .int .i64 hi, .slice oa on oc, .int .i64 ot]] W fun e w' => ∃ v, e = .returned (.tuple #[.agg #[v, .int .i64 (gtR O h w c lo hi ot on).2.2.2], .agg #[.int .i64 (gtR O h w c lo hi ot on).1, .int .i64 (gtR O h w c lo hi ot on).2.1, .int .i64 0]]) ∧ Shp w' W.heap.size v (gtR O h w c lo hi ot on).2.2.1 ∧ Below W.heap.size W w' := by
  obtain ⟨x, hx⟩ : ∃ x, ouE h w c lo hi ot on = x := ⟨_, rfl⟩
  have hU : Hid (∀ W, Calls Try.prog 36 #[.agg #[.int .i64 h, .int .i64 w, .int .i64 c, .int .i64 lo, .int .i64 hi, .slice oa on oc, .int .i64 ot]] W fun e w' => e = .returned (.int .i64 x) ∧ Below W.heap.size W w') := fun W => by rw [← hx]; exact outside_any h w c lo hi ot oa on oc W
  obtain ⟨Re, Ra, RL, Rw, hR⟩ : ∃ Re Ra RL Rw, gtR O h w c lo hi ot on = (Re, Ra, RL, Rw) := ⟨_, _, _, _, rfl⟩
  rw [hR]
  simp only
  by_cases hx0 : x = 0
  rotate_left
  · have hRR : gtR O h w c lo hi ot on = (x, 0, [], 0) := by unfold gtR; rw [hx, if_pos hx0]
    rw [hR] at hRR
    simp only [Prod.mk.injEq] at hRR
    obtain ⟨rfl, rfl, rfl, rfl⟩ := hRR
    clear hx hR hM
    go_enter Try.func23, Try.ntmps23
    go_wp2_with fail
    refine (hU.out _).mono ?_
    rintro e w1 ⟨rfl, hb'⟩
    have s1 := (St.start W).new.new.new.call hb'
    clear hb'
    try simp only [World.size_setCell] at s1
    try simp only [World.size_alloc] at s1
    obtain ⟨c1, f1, zw1_1, c2, f2, zw1_2, c3, f3, zw1_3, -⟩ := s1.rules
    go_wp2
    exact bodyPost_ret (v := .tuple #[.agg #[.slice none 0 0, .int .i64 0], .agg #[.int .i64 Re, .int .i64 0, .int .i64 0]]) (by simp [results, Try.results23, go_sem, *]) rfl ⟨_, rfl, .inl ⟨rfl, rfl⟩, set5b s1.below (by omega) (by omega)⟩
  subst hx0
  obtain ⟨g0, r0, ho64, hot0, hot1⟩ := ouE_0 hx
  have hRG : Hid (stG O (h, w, c) on = (Re, Ra, RL, Rw)) := by unfold Hid; rw [← hR]; unfold gtR; rw [hx, if_neg (by decide)]
  have hocc := hM.1
  have hocm := hM.2.1
  unfold maxLen at hocm
  have hM' : Hid (MRow W oa on oc O) := hM
  clear hx hR hM hot0 hot1 r0
  go_enter Try.func23, Try.ntmps23
  go_wp2_with fail
  refine (hU.out _).mono ?_
  rintro e w1 ⟨rfl, hb'⟩
  have s1 := (St.start W).new.new.new.call hb'
  clear hb'
  try simp only [World.size_setCell] at s1
  try simp only [World.size_alloc] at s1
  obtain ⟨c1, f1, zw1_1, c2, f2, zw1_2, c3, f3, zw1_3, -⟩ := s1.rules
  go_wp2_with (first
    | (at_make; refine wpList_mk3 rfl _ _ rfl (on + 1) _ rfl rfl (by omega) (by omega) ?_; intro cur hcur)
    | (at_builtin; refine wpList_ap3 rfl (.tmp 22) (.tmp 25) rfl w1.heap.size 0 (on + 1) rfl (w1.heap.size + 1) (.int .i64 h) (.int .i64 w) (.int .i64 c) rfl (heap_alloc2_new w1 _ _) (by simp [Value.oneCell']) cur (heap_alloc2_old w1 _ _) (by omega) (by omega) ?_; have s2 := (s1.new (c := cur) (t := 23)).new (c := #[.int .i64 h, .int .i64 w, .int .i64 c]) (t := 23); simp only [World.size_alloc] at s2; have s3 := s2.up1.app3 (by simp; omega) (o := 0 * 3) (x := .int .i64 h) (y := .int .i64 w) (z := .int .i64 c); generalize World.setCells _ _ _ _ = w2 at s3 ⊢; clear s2 c1 f1 c2 f2 c3 f3; obtain ⟨-, -, zg, -, -, -, -, -, -, -, -, -, c3, f3, zm, -⟩ := s3.rules))
  have hC1 : Cu _ (on + 1) [(h, w, c)] := (show Cu cur (on + 1) [] from ⟨hcur, by simp, by rw [show ([] : List (Int × Int × Int)).length * 3 = 0 from rfl, List.take_zero]; rfl⟩).add (by simp) h w c
  have s4 := s3.drop2.new (c := #[.slice (some ⟨w1.heap.size, 0, none⟩) 1 (on + 1), .int .i64 0]) (t := 63)
  have H4 : Hid (∃ cur, Cu cur (on + 1) [(h, w, c)] ∧ St W _ ((_, _, _) :: (_, cur, _) :: _)) := ⟨_, hC1, s4⟩
  clear s3 s4 hC1 c3 f3 hcur s1
  go_loopw [31] (fun i wr => ∃ (k : Nat) (L : List (Int × Int × Int)) (wk : Int) (cur : Array Value), k ≤ on ∧ i = .int .i64 k ∧ stG O (h, w, c) k = (0, 0, L, wk) ∧ Cu cur (on + 1) L ∧ St W wr ((w2.heap.size, #[.slice (some ⟨w1.heap.size, 0, none⟩) (k + 1) (on + 1), .int .i64 wk], 63) :: (w1.heap.size, cur, 23) :: (W.heap.size + 1 + 1, #[.int .i64 0, .int .i64 0, .int .i64 0], 31) :: (W.heap.size + 1, #[.slice none 0 0, .int .i64 0], 63) :: (W.heap.size, #[.int .i64 h, .int .i64 w, .int .i64 c, .int .i64 lo, .int .i64 hi, .slice oa on oc, .int .i64 ot], 26) :: [])) (fun i _ => on - (intOf i).toNat)
  case atStart =>
    obtain ⟨cur1, hC1, s4⟩ := H4.out
    exact ⟨0, [(h, w, c)], 0, cur1, Nat.zero_le _, rfl, rfl, hC1, s4⟩
  case round =>
    obtain ⟨k, L, wk, cur1, hk, rfl, hst, hCu, sr⟩ := hrel
    clear H4 cur
    obtain ⟨i1, i2, i3, i4⟩ := stG_inv (O := O) (s0 := (h, w, c)) g0 k L wk hst
    obtain ⟨c1, f1, zr1, c2, f2, zr2, c3, f3, zr3, c4, f4, zr4, c5, f5, zr5, -⟩ := sr.rules
    by_cases hlt : k < on
    · obtain ⟨x, wa, lw, cw, ba, lb, cb, rfl, hl12, hl13, hcell⟩ := (hM'.out.below sr.below).at hlt
      have sb := (sr.new (c := #[.int .i64 (O k 0), .int .i64 (O k 1), .int .i64 (O k 2), .int .i64 (O k 3), .int .i64 (O k 4), .int .i64 (O k 5), .int .i64 (O k 6), .int .i64 (O k 7), .int .i64 (O k 8), .int .i64 (O k 9), .int .i64 (O k 10), .int .i64 (O k 11), .slice wa lw cw, .slice ba lb cb, .int .i64 (O k 14), .int .i64 (O k 15), .int .i64 (O k 16), .int .i64 (O k 17), .int .i64 (O k 18), .int .i64 (O k 19), .int .i64 (O k 20), .int .i64 (O k 21)]) (t := 50)).toFront
      have hT : tkE (O k 0) (O k 1) (O k 2) (O k 3) (O k 4) (O k 5) (O k 6) (O k 7) (O k 8) (O k 9) (O k 10) (O k 11) lw lb (O k 14) (O k 15) (O k 16) (O k 17) (O k 18) (O k 19) (O k 20) (O k 21) L wk = oT (O k) L wk := by unfold oT; rw [hl12, hl13]; rfl
      have hcall := take_any (O k 0) (O k 1) (O k 2) (O k 3) (O k 4) (O k 5) (O k 6) (O k 7) (O k 8) (O k 9) (O k 10) (O k 11) wa lw cw ba lb cb (O k 14) (O k 15) (O k 16) (O k 17) (O k 18) (O k 19) (O k 20) (O k 21) W _ w2.heap.size w1.heap.size (on + 1) (k + 1) cur1 L wk _ i1 sb (by omega) ⟨i3, i4⟩ (by omega) hCu i2 (by omega) (by simp; omega)
      rw [hT] at hcall
      obtain ⟨y, hy⟩ : ∃ y, oT (O k) L wk = y := ⟨_, rfl⟩
      rw [hy] at hcall
      have Hcall : Hid _ := hcall
      have Hbox := heap_alloc_new wr (.cells #[.int .i64 (O k 0), .int .i64 (O k 1), .int .i64 (O k 2), .int .i64 (O k 3), .int .i64 (O k 4), .int .i64 (O k 5), .int .i64 (O k 6), .int .i64 (O k 7), .int .i64 (O k 8), .int .i64 (O k 9), .int .i64 (O k 10), .int .i64 (O k 11), .slice wa lw cw, .slice ba lb cb, .int .i64 (O k 14), .int .i64 (O k 15), .int .i64 (O k 16), .int .i64 (O k 17), .int .i64 (O k 18), .int .i64 (O k 19), .int .i64 (O k 20), .int .i64 (O k 21)] 50)
      have hcell' : Hid (∀ j v, [.int .i64 (O k 0), .int .i64 (O k 1), .int .i64 (O k 2), .int .i64 (O k 3), .int .i64 (O k 4), .int .i64 (O k 5), .int .i64 (O k 6), .int .i64 (O k 7), .int .i64 (O k 8), .int .i64 (O k 9), .int .i64 (O k 10), .int .i64 (O k 11), .slice wa lw cw, .slice ba lb cb, .int .i64 (O k 14), .int .i64 (O k 15), .int .i64 (O k 16), .int .i64 (O k 17), .int .i64 (O k 18), .int .i64 (O k 19), .int .i64 (O k 20), .int .i64 (O k 21)][j]? = some v → wr.cell? ((x.add (k * 22)).add j) = some v) := hcell
      clear hcall hcell hT hl12 hl13
      go_upto_region 8 with fail
      go_wp2_with (first
        | (refine wpList_load_any rfl 50 (.tmp 34) rfl _ rfl [.int .i64 (O k 0), .int .i64 (O k 1), .int .i64 (O k 2), .int .i64 (O k 3), .int .i64 (O k 4), .int .i64 (O k 5), .int .i64 (O k 6), .int .i64 (O k 7), .int .i64 (O k 8), .int .i64 (O k 9), .int .i64 (O k 10), .int .i64 (O k 11), .slice wa lw cw, .slice ba lb cb, .int .i64 (O k 14), .int .i64 (O k 15), .int .i64 (O k 16), .int .i64 (O k 17), .int .i64 (O k 18), .int .i64 (O k 19), .int .i64 (O k 20), .int .i64 (O k 21)] _ hcell'.out Try.underlying50 rfl (by kernel_rfl) ?_)
        | (refine wpList_st_new rfl 50 (.tmp 8) (.tmp 35) rfl wr _ #[.int .i64 (O k 0), .int .i64 (O k 1), .int .i64 (O k 2), .int .i64 (O k 3), .int .i64 (O k 4), .int .i64 (O k 5), .int .i64 (O k 6), .int .i64 (O k 7), .int .i64 (O k 8), .int .i64 (O k 9), .int .i64 (O k 10), .int .i64 (O k 11), .slice wa lw cw, .slice ba lb cb, .int .i64 (O k 14), .int .i64 (O k 15), .int .i64 (O k 16), .int .i64 (O k 17), .int .i64 (O k 18), .int .i64 (O k 19), .int .i64 (O k 20), .int .i64 (O k 21)] rfl rfl (by kernel_rfl) rfl (by simp [Value.oneCell']) ?_)
        | (refine wpList_load_row rfl 50 (.tmp 8) rfl wr.heap.size rfl 50 _ (0, 0) _ Hbox Try.underlying50 rfl (by kernel_rfl) ?_))
      refine Calls.mono Hcall.out ?_
      rintro e w3 ⟨rfl, T⟩
      clear Hcall Hbox hcell' c1 f1 c2 f2 c3 f3 c4 f4 c5 f5 sb sr
      by_cases hy0 : y = 0
      · obtain ⟨n', cur', wk', s5, hz⟩ := T
        obtain ⟨rfl, rfl, hCu'⟩ := hz hy0
        have hst' := stG_ok hst (hy.trans hy0)
        have Hst : Hid (stG O (h, w, c) (k + 1) = _) := hst'
        have HC : Hid (Cu cur' (on + 1) _) := hCu'
        have Hs5 : Hid (St W w3 _) := s5
        clear hst' hCu' hst hz hy hCu s5 i1 i2
        subst hy0
        go_wp2
        go_round
        case rel => exact ⟨k + 1, _, _, cur', by omega, rfl, Hst.out, HC.out, Hs5.out.drop3⟩
        case measure => simp [intOf]; omega
      · obtain ⟨n', cur', wk', s5, -⟩ := T
        have hst' := stG_err hst hy hy0
        have hon : stG O (h, w, c) on = (y, (k : Int) + 1, [], 0) := by
          have := stG_bad (O := O) (s0 := (h, w, c)) (i := k + 1) (by rw [hst']; exact hy0) (on - (k + 1))
          rw [show k + 1 + (on - (k + 1)) = on by omega] at this
          rw [this, hst']
        rw [hRG.out] at hon
        simp only [Prod.mk.injEq] at hon
        obtain ⟨e1, e2, e3, e4⟩ := hon
        have HE : Hid (Re = y ∧ Ra = (k : Int) + 1 ∧ RL = [] ∧ Rw = 0) := ⟨e1, e2, e3, e4⟩
        clear e1 e2 e3 e4 hst' hst hy hCu i1 i2 hRG
        obtain ⟨c1, f1, zt1, c2, f2, zt2, c3, f3, zt3, c4, f4, zt4, c5, f5, zt5, c6, f6, zt6, -⟩ := s5.rules
        go_wp2
        exact bodyPost_ret (v := .tuple #[.agg #[.slice none 0 0, .int .i64 0], .agg #[.int .i64 y, .int .i64 ((k : Int) + 1), .int .i64 0]]) (by simp [results, Try.results23, go_sem, *]) rfl ⟨_, by rw [HE.out.1, HE.out.2.1, HE.out.2.2.2], .inl ⟨rfl, HE.out.2.2.1⟩, set5b s5.below (by omega) (by omega)⟩
    · obtain rfl : k = on := by omega
      rw [hRG.out] at hst
      simp only [Prod.mk.injEq] at hst
      obtain ⟨e1, e2, e3, e4⟩ := hst
      have HE : Hid (Re = 0 ∧ Ra = 0 ∧ RL = L ∧ Rw = wk) := ⟨e1, e2, e3, e4⟩
      have HL : Hid (L.length = k + 1) := i1
      clear e1 e2 e3 e4 hRG i1
      go_wp2
      exact bodyPost_ret (v := .tuple #[.agg #[.slice (some ⟨w1.heap.size, 0, none⟩) (k + 1) (k + 1), .int .i64 wk], .agg #[.int .i64 0, .int .i64 0, .int .i64 0]]) (by simp [results, Try.results23, go_sem, *]) rfl ⟨_, by rw [HE.out.1, HE.out.2.1, HE.out.2.2.2], .inr ⟨w1.heap.size, k + 1, cur1, by rw [HE.out.2.2.1, HL.out], by omega, set5h sr.h2 (by omega) (by omega), by rw [HE.out.2.2.1]; exact hCu, by omega⟩, set5b sr.below (by omega) (by omega)⟩
end Go.Proofs.Ythagdpiocmcbmaa
