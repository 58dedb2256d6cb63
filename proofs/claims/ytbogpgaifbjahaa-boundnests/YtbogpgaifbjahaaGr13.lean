/- goThrough of package model: what it answers. Slices of structs that came in, opened. Readings whose every list is within the reach: slices of integers, and slices of structs that hold slices, opened with that. Fronts of models in plain numbers; what is known of each op of a well-formed model; ops that came in. Sums of ops that reduce, in plain numbers: their terms, their bias, and what is known of such an op of a well-formed model. What the small functions of package terms return: how many terms, channels and positions an op has; its bias; a weight; the channels that are read; a place. The iterator of Taps: called with whatever round, it gives each tap in its order, till it is told to stop. The iterator of Positions: called with whatever round, it gives each position's row and column in their order, till it is told to stop. -/
import Derived.Test.YtbogpgaifbjahaaGr01
import Derived.Test.YtbogpgaifbjahaaGr02
import Derived.Test.YtbogpgaifbjahaaGr09
import Derived.Test.YtbogpgaifbjahaaGr12
import Derived.Deep.WholeRow
import Derived.SizedLaws
import Derived.BigQuiet
import Derived.RangeFuncNested
import Derived.RangeFuncBound
import Derived.RangeFuncCalls
import Derived.RangeFuncLeaves
import Derived.Shelf.Abstract
import Derived.Shelf.RegionOpen
import Derived.WalkKit
import Derived.OwnWalkIn
import Derived.TacticsInMore
import Derived.LoopNIn
import Derived.LoopIn
/- goThrough of package model: what it answers. -/
namespace Go.Proofs.Ytbogpgaifbjahaa
open Go.ChangeShapes Go.WideShapes Go.ChangeAt Go.RowKit
set_option linter.unusedVariables false
theorem set5b {w0 w : World} {B N M : Nat} {a b c d e : Value} (h : Below B w0 w) (hN : B ≤ N) (hM : B ≤ M) : Below B w0 (((((w.setCell ⟨N, 0, none⟩ a).setCell ⟨N, 1, none⟩ b).setCell ⟨M, 0, none⟩ c).setCell ⟨M, 1, none⟩ d).setCell ⟨M, 2, none⟩ e) :=
  ((((h.setCell (p := ⟨N, 0, none⟩) hN a).setCell (p := ⟨N, 1, none⟩) hN b).setCell (p := ⟨M, 0, none⟩) hM c).setCell (p := ⟨M, 1, none⟩) hM d).setCell (p := ⟨M, 2, none⟩) hM e
theorem set5h {w : World} {g N M : Nat} {o : Obj} {a b c d e : Value} (h : w.heap[g]? = some o) (hN : g ≠ N) (hM : g ≠ M) : (((((w.setCell ⟨N, 0, none⟩ a).setCell ⟨N, 1, none⟩ b).setCell ⟨M, 0, none⟩ c).setCell ⟨M, 1, none⟩ d).setCell ⟨M, 2, none⟩ e).heap[g]? = some o := by
  rw [Below.heap_setCell _ _ _ _ hM, Below.heap_setCell _ _ _ _ hM, Below.heap_setCell _ _ _ _ hM, Below.heap_setCell _ _ _ _ hN, Below.heap_setCell _ _ _ _ hN]
  exact h
/-- 'make' of shapes, none yet. -/
theorem wpList_mk3 {w : World} {ops : Array Oper} {rest : List Oper} {o : Oper} {a : Act} {Q : Exit → Act → World → Prop} (hg : o.guard = none) (l c : Operand) (hop : o.op = Op.makeSlice 86 l c)
    (m : Nat) (C : Int) (hl : a.eval l = .int .i64 0) (hc : a.eval c = .int .i64 C) (hC : C = (m : Int)) (hm : m ≤ 1000)
    (hK : ∀ cur : Array Value, cur.size = m * 3 → wpList Try.prog ops Q rest (a.put o.dst (.slice (some ⟨w.heap.size, 0, none⟩) 0 m)) (w.alloc (.cells cur 23))) :
    wpList Try.prog ops Q (o :: rest) a w := by
  obtain ⟨i0, hi0, hz0, hz1, hz2⟩ := info_parts (show (Try.prog.info? 23).map (fun i => (i.zero, i.size, i.bytes)) = some (some (.agg #[.int .i64 0, .int .i64 0, .int .i64 0]), 3, 24) by kernel_rfl)
  subst hC
  refine wpList_plain hg fun K hK' => ?_
  have hr := run_make (P := Try.prog) w 86 23 i0 (.agg #[.int .i64 0, .int .i64 0, .int .i64 0]) Try.underlying86 hi0 hz0 .i64 .i64 ((0 : Nat) : Int) m (by omega) (by omega) (by rw [hz2]; omega) (by omega)
  simp only [Int.toNat_natCast, hz1] at hr
  unfold Oper.wp
  simp only [execOp, hop, hl, hc]
  simp [Result.andThen]
  have hr' := hr
  simp only [Int.natCast_zero] at hr'
  rw [hr']
  exact hK' _ _ (hK _ (by rw [size_madeCells]))
/-- 'append' of one shape, where there is room. -/
theorem wpList_ap3 {w : World} {ops : Array Oper} {rest : List Oper} {o : Oper} {a : Act} {Q : Exit → Act → World → Prop} (hg : o.guard = none) (s x : Operand) (hop : o.op = Op.call { callee := Callee.builtin Builtin.append, args := #[s, x], argTypes := #[86, 86] })
    (g n cap : Nat) (hs : a.eval s = .slice (some ⟨g, 0, none⟩) n cap) (b : Nat) (u v z : Value) (hx : a.eval x = .slice (some ⟨b, 0, none⟩) 1 1) (hb : w.heap[b]? = some (.cells #[u, v, z] 23 (0, 0))) (h1 : ∀ q ∈ [u, v, z], q.oneCell' = true)
    (cur : Array Value) (hcur : w.heap[g]? = some (.cells cur 23 (0, 0))) (hsz : n * 3 + 3 ≤ cur.size) (hroom : n + 1 ≤ cap)
    (hK : wpList Try.prog ops Q rest (a.put o.dst (.slice (some ⟨g, 0, none⟩) (n + 1) cap)) (w.setCells g (0 + n * 3) [u, v, z])) : wpList Try.prog ops Q (o :: rest) a w := by
  obtain ⟨i0, hi0, hz0, hz1, hz2⟩ := info_parts (show (Try.prog.info? 23).map (fun i => (i.zero, i.size, i.bytes)) = some (some (.agg #[.int .i64 0, .int .i64 0, .int .i64 0]), 3, 24) by kernel_rfl)
  refine wpList_plain hg fun K hK' => ?_
  have := step_append_room (P := Try.prog) (ops := ops) (o := o) (a := a) (w := w) (K := K) (Q := Q) (E := False) hg s x 86 hop 23 i0 3 Try.underlying86 hi0 hz1 g 0 n cap hs ⟨b, 0, none⟩ 1 1 [u, v, z] hx rfl (new_cells hb) h1 hroom (spare_of hcur hsz) (hK' _ _ hK)
  rwa [if_pos (by simp [Region.wanted, hg])] at this
/-- Shapes that a call answers. -/
def Shp (w : World) (base : Nat) (v : Value) (L : List (Int × Int × Int)) : Prop :=
  (v = .slice none 0 0 ∧ L = []) ∨ ∃ (g cap : Nat) (cur : Array Value), v = .slice (some ⟨g, 0, none⟩) L.length cap ∧ base ≤ g ∧ w.heap[g]? = some (.cells cur 23 (0, 0)) ∧ Cu cur cap L ∧ cap ≤ 1000
/-- The whole answer. -/
def gtR (O : Nat → Nat → Int) (h w c lo hi ot : Int) (on : Nat) : Int × Int × List (Int × Int × Int) × Int := if ouE h w c lo hi ot on ≠ 0 then (ouE h w c lo hi ot on, 0, [], 0) else stG O (h, w, c) on
set_option maxHeartbeats 4000000 in
set_option maxRecDepth 100000 in
theorem gothrough_any (h w c lo hi ot : Int) (oa : Option Addr) (on oc : Nat) (O : Nat → Nat → Int) (W : World) (hM : MRow W oa on oc O) :
    Calls Try.prog 59 #[.agg #[.int .i64 h, .int .i64 w, .int .i64 c, .int .i64 lo, .int .i64 hi, .slice oa on oc, .int .i64 ot]] W fun e w' => ∃ v, e = .returned (.tuple #[.agg #[v, .int .i64 (gtR O h w c lo hi ot on).2.2.2], .agg #[.int .i64 (gtR O h w c lo hi ot on).1, .int .i64 (gtR O h w c lo hi ot on).2.1, .int .i64 0]]) ∧ Shp w' W.heap.size v (gtR O h w c lo hi ot on).2.2.1 ∧ Below W.heap.size W w' := by
  obtain ⟨x, hx⟩ : ∃ x, ouE h w c lo hi ot on = x := ⟨_, rfl⟩
  have hU : Hid (∀ W, Calls Try.prog 79 #[.agg #[.int .i64 h, .int .i64 w, .int .i64 c, .int .i64 lo, .int .i64 hi, .slice oa on oc, .int .i64 ot]] W fun e w' => e = .returned (.int .i64 x) ∧ Below W.heap.size W w') := fun W => by rw [← hx]; exact outside_any h w c lo hi ot oa on oc W
  obtain ⟨Re, Ra, RL, Rw, hR⟩ : ∃ Re Ra RL Rw, gtR O h w c lo hi ot on = (Re, Ra, RL, Rw) := ⟨_, _, _, _, rfl⟩
  rw [hR]
  simp only
  by_cases hx0 : x = 0
  rotate_left
  · have hRR : gtR O h w c lo hi ot on = (x, 0, [], 0) := by unfold gtR; rw [hx, if_pos hx0]
    rw [hR] at hRR
    simp only [Prod.mk.injEq] at hRR
    obtain ⟨rfl, rfl, rfl, rfl⟩ := hRR
    clear hx hR hM
    go_enter Try.func59, Try.ntmps59
    go_wp2_with fail
    refine (hU.out _).mono ?_
    rintro e w1 ⟨rfl, hb'⟩
    have s1 := (St.start W).new.new.new.call hb'
    clear hb'
    try simp only [World.size_setCell] at s1
    try simp only [World.size_alloc] at s1
    obtain ⟨c1, f1, zw1_1, c2, f2, zw1_2, c3, f3, zw1_3, -⟩ := s1.rules
    go_wp2
    exact bodyPost_ret (v := .tuple #[.agg #[.slice none 0 0, .int .i64 0], .agg #[.int .i64 Re, .int .i64 0, .int .i64 0]]) (by simp [results, Try.results59, go_sem, *]) rfl ⟨_, rfl, .inl ⟨rfl, rfl⟩, set5b s1.below (by omega) (by omega)⟩
  subst hx0
  obtain ⟨g0, r0, ho64, hot0, hot1⟩ := ouE_0 hx
  have hRG : Hid (stG O (h, w, c) on = (Re, Ra, RL, Rw)) := by unfold Hid; rw [← hR]; unfold gtR; rw [hx, if_neg (by decide)]
  have hocc := hM.1
  have hocm := hM.2.1
  unfold maxLen at hocm
  have hM' : Hid (MRow W oa on oc O) := hM
  clear hx hR hM hot0 hot1 r0
  go_enter Try.func59, Try.ntmps59
  go_wp2_with fail
  refine (hU.out _).mono ?_
  rintro e w1 ⟨rfl, hb'⟩
  have s1 := (St.start W).new.new.new.call hb'
  clear hb'
  try simp only [World.size_setCell] at s1
  try simp only [World.size_alloc] at s1
  obtain ⟨c1, f1, zw1_1, c2, f2, zw1_2, c3, f3, zw1_3, -⟩ := s1.rules
  go_wp2_with (first
    | (at_make; refine wpList_mk3 rfl _ _ rfl (on + 1) _ rfl rfl (by omega) (by omega) ?_; intro cur hcur)
    | (at_builtin; refine wpList_ap3 rfl (.tmp 22) (.tmp 25) rfl w1.heap.size 0 (on + 1) rfl (w1.heap.size + 1) (.int .i64 h) (.int .i64 w) (.int .i64 c) rfl (heap_alloc2_new w1 _ _) (by simp [Value.oneCell']) cur (heap_alloc2_old w1 _ _) (by omega) (by omega) ?_; have s2 := (s1.new (c := cur) (t := 23)).new (c := #[.int .i64 h, .int .i64 w, .int .i64 c]) (t := 23); simp only [World.size_alloc] at s2; have s3 := s2.up1.app3 (by simp; omega) (o := 0 * 3) (x := .int .i64 h) (y := .int .i64 w) (z := .int .i64 c); generalize World.setCells _ _ _ _ = w2 at s3 ⊢; clear s2 c1 f1 c2 f2 c3 f3; obtain ⟨-, -, zg, -, -, -, -, -, -, -, -, -, c3, f3, zm, -⟩ := s3.rules))
  have hC1 : Cu _ (on + 1) [(h, w, c)] := (show Cu cur (on + 1) [] from ⟨hcur, by simp, by rw [show ([] : List (Int × Int × Int)).length * 3 = 0 from rfl, List.take_zero]; rfl⟩).add (by simp) h w c
  have s4 := s3.drop2.new (c := #[.slice (some ⟨w1.heap.size, 0, none⟩) 1 (on + 1), .int .i64 0]) (t := 120)
  have H4 : Hid (∃ cur, Cu cur (on + 1) [(h, w, c)] ∧ St W _ ((_, _, _) :: (_, cur, _) :: _)) := ⟨_, hC1, s4⟩
  clear s3 s4 hC1 c3 f3 hcur s1
  go_loopw [31] (fun i wr => ∃ (k : Nat) (L : List (Int × Int × Int)) (wk : Int) (cur : Array Value), k ≤ on ∧ i = .int .i64 k ∧ stG O (h, w, c) k = (0, 0, L, wk) ∧ Cu cur (on + 1) L ∧ St W wr ((w2.heap.size, #[.slice (some ⟨w1.heap.size, 0, none⟩) (k + 1) (on + 1), .int .i64 wk], 120) :: (w1.heap.size, cur, 23) :: (W.heap.size + 1 + 1, #[.int .i64 0, .int .i64 0, .int .i64 0], 88) :: (W.heap.size + 1, #[.slice none 0 0, .int .i64 0], 120) :: (W.heap.size, #[.int .i64 h, .int .i64 w, .int .i64 c, .int .i64 lo, .int .i64 hi, .slice oa on oc, .int .i64 ot], 26) :: [])) (fun i _ => on - (intOf i).toNat)
  case atStart =>
    obtain ⟨cur1, hC1, s4⟩ := H4.out
    exact ⟨0, [(h, w, c)], 0, cur1, Nat.zero_le _, rfl, rfl, hC1, s4⟩
  case round =>
    obtain ⟨k, L, wk, cur1, hk, rfl, hst, hCu, sr⟩ := hrel
    clear H4 cur
    obtain ⟨i1, i2, i3, i4⟩ := stG_inv (O := O) (s0 := (h, w, c)) g0 k L wk hst
    obtain ⟨c1, f1, zr1, c2, f2, zr2, c3, f3, zr3, c4, f4, zr4, c5, f5, zr5, -⟩ := sr.rules
    by_cases hlt : k < on
    · obtain ⟨x, wa, lw, cw, ba, lb, cb, rfl, hl12, hl13, hcell⟩ := (hM'.out.below sr.below).at hlt
      have sb := (sr.new (c := #[.int .i64 (O k 0), .int .i64 (O k 1), .int .i64 (O k 2), .int .i64 (O k 3), .int .i64 (O k 4), .int .i64 (O k 5), .int .i64 (O k 6), .int .i64 (O k 7), .int .i64 (O k 8), .int .i64 (O k 9), .int .i64 (O k 10), .int .i64 (O k 11), .slice wa lw cw, .slice ba lb cb, .int .i64 (O k 14), .int .i64 (O k 15), .int .i64 (O k 16), .int .i64 (O k 17), .int .i64 (O k 18), .int .i64 (O k 19), .int .i64 (O k 20), .int .i64 (O k 21)]) (t := 47)).toFront
      have hT : tkE (O k 0) (O k 1) (O k 2) (O k 3) (O k 4) (O k 5) (O k 6) (O k 7) (O k 8) (O k 9) (O k 10) (O k 11) lw lb (O k 14) (O k 15) (O k 16) (O k 17) (O k 18) (O k 19) (O k 20) (O k 21) L wk = oT (O k) L wk := by unfold oT; rw [hl12, hl13]; rfl
      have hcall := take_any (O k 0) (O k 1) (O k 2) (O k 3) (O k 4) (O k 5) (O k 6) (O k 7) (O k 8) (O k 9) (O k 10) (O k 11) wa lw cw ba lb cb (O k 14) (O k 15) (O k 16) (O k 17) (O k 18) (O k 19) (O k 20) (O k 21) W _ w2.heap.size w1.heap.size (on + 1) (k + 1) cur1 L wk _ i1 sb (by omega) ⟨i3, i4⟩ (by omega) hCu i2 (by omega) (by simp; omega)
      rw [hT] at hcall
      obtain ⟨y, hy⟩ : ∃ y, oT (O k) L wk = y := ⟨_, rfl⟩
      rw [hy] at hcall
      have Hcall : Hid _ := hcall
      have Hbox := heap_alloc_new wr (.cells #[.int .i64 (O k 0), .int .i64 (O k 1), .int .i64 (O k 2), .int .i64 (O k 3), .int .i64 (O k 4), .int .i64 (O k 5), .int .i64 (O k 6), .int .i64 (O k 7), .int .i64 (O k 8), .int .i64 (O k 9), .int .i64 (O k 10), .int .i64 (O k 11), .slice wa lw cw, .slice ba lb cb, .int .i64 (O k 14), .int .i64 (O k 15), .int .i64 (O k 16), .int .i64 (O k 17), .int .i64 (O k 18), .int .i64 (O k 19), .int .i64 (O k 20), .int .i64 (O k 21)] 47)
      have hcell' : Hid (∀ j v, [.int .i64 (O k 0), .int .i64 (O k 1), .int .i64 (O k 2), .int .i64 (O k 3), .int .i64 (O k 4), .int .i64 (O k 5), .int .i64 (O k 6), .int .i64 (O k 7), .int .i64 (O k 8), .int .i64 (O k 9), .int .i64 (O k 10), .int .i64 (O k 11), .slice wa lw cw, .slice ba lb cb, .int .i64 (O k 14), .int .i64 (O k 15), .int .i64 (O k 16), .int .i64 (O k 17), .int .i64 (O k 18), .int .i64 (O k 19), .int .i64 (O k 20), .int .i64 (O k 21)][j]? = some v → wr.cell? ((x.add (k * 22)).add j) = some v) := hcell
      clear hcall hcell hT hl12 hl13
      go_upto_region 8 with fail
      go_wp2_with (first
        | (refine wpList_load_any rfl 47 (.tmp 34) rfl _ rfl [.int .i64 (O k 0), .int .i64 (O k 1), .int .i64 (O k 2), .int .i64 (O k 3), .int .i64 (O k 4), .int .i64 (O k 5), .int .i64 (O k 6), .int .i64 (O k 7), .int .i64 (O k 8), .int .i64 (O k 9), .int .i64 (O k 10), .int .i64 (O k 11), .slice wa lw cw, .slice ba lb cb, .int .i64 (O k 14), .int .i64 (O k 15), .int .i64 (O k 16), .int .i64 (O k 17), .int .i64 (O k 18), .int .i64 (O k 19), .int .i64 (O k 20), .int .i64 (O k 21)] _ hcell'.out Try.underlying47 rfl (by kernel_rfl) ?_)
        | (refine wpList_st_new rfl 47 (.tmp 8) (.tmp 35) rfl wr _ #[.int .i64 (O k 0), .int .i64 (O k 1), .int .i64 (O k 2), .int .i64 (O k 3), .int .i64 (O k 4), .int .i64 (O k 5), .int .i64 (O k 6), .int .i64 (O k 7), .int .i64 (O k 8), .int .i64 (O k 9), .int .i64 (O k 10), .int .i64 (O k 11), .slice wa lw cw, .slice ba lb cb, .int .i64 (O k 14), .int .i64 (O k 15), .int .i64 (O k 16), .int .i64 (O k 17), .int .i64 (O k 18), .int .i64 (O k 19), .int .i64 (O k 20), .int .i64 (O k 21)] rfl rfl (by kernel_rfl) rfl (by simp [Value.oneCell']) ?_)
        | (refine wpList_load_row rfl 47 (.tmp 8) rfl wr.heap.size rfl 47 _ (0, 0) _ Hbox Try.underlying47 rfl (by kernel_rfl) ?_))
      refine Calls.mono Hcall.out ?_
      rintro e w3 ⟨rfl, T⟩
      clear Hcall Hbox hcell' c1 f1 c2 f2 c3 f3 c4 f4 c5 f5 sb sr
      by_cases hy0 : y = 0
      · obtain ⟨n', cur', wk', s5, hz⟩ := T
        obtain ⟨rfl, rfl, hCu'⟩ := hz hy0
        have hst' := stG_ok hst (hy.trans hy0)
        have Hst : Hid (stG O (h, w, c) (k + 1) = _) := hst'
        have HC : Hid (Cu cur' (on + 1) _) := hCu'
        have Hs5 : Hid (St W w3 _) := s5
        clear hst' hCu' hst hz hy hCu s5 i1 i2
        subst hy0
        go_wp2
        go_round
        case rel => exact ⟨k + 1, _, _, cur', by omega, rfl, Hst.out, HC.out, Hs5.out.drop3⟩
        case measure => simp [intOf]; omega
      · obtain ⟨n', cur', wk', s5, -⟩ := T
        have hst' := stG_err hst hy hy0
        have hon : stG O (h, w, c) on = (y, (k : Int) + 1, [], 0) := by
          have := stG_bad (O := O) (s0 := (h, w, c)) (i := k + 1) (by rw [hst']; exact hy0) (on - (k + 1))
          rw [show k + 1 + (on - (k + 1)) = on by omega] at this
          rw [this, hst']
        rw [hRG.out] at hon
        simp only [Prod.mk.injEq] at hon
        obtain ⟨e1, e2, e3, e4⟩ := hon
        have HE : Hid (Re = y ∧ Ra = (k : Int) + 1 ∧ RL = [] ∧ Rw = 0) := ⟨e1, e2, e3, e4⟩
        clear e1 e2 e3 e4 hst' hst hy hCu i1 i2 hRG
        obtain ⟨c1, f1, zt1, c2, f2, zt2, c3, f3, zt3, c4, f4, zt4, c5, f5, zt5, c6, f6, zt6, -⟩ := s5.rules
        go_wp2
        exact bodyPost_ret (v := .tuple #[.agg #[.slice none 0 0, .int .i64 0], .agg #[.int .i64 y, .int .i64 ((k : Int) + 1), .int .i64 0]]) (by simp [results, Try.results59, go_sem, *]) rfl ⟨_, by rw [HE.out.1, HE.out.2.1, HE.out.2.2.2], .inl ⟨rfl, HE.out.2.2.1⟩, set5b s5.below (by omega) (by omega)⟩
    · obtain rfl : k = on := by omega
      rw [hRG.out] at hst
      simp only [Prod.mk.injEq] at hst
      obtain ⟨e1, e2, e3, e4⟩ := hst
      have HE : Hid (Re = 0 ∧ Ra = 0 ∧ RL = L ∧ Rw = wk) := ⟨e1, e2, e3, e4⟩
      have HL : Hid (L.length = k + 1) := i1
      clear e1 e2 e3 e4 hRG i1
      go_wp2
      exact bodyPost_ret (v := .tuple #[.agg #[.slice (some ⟨w1.heap.size, 0, none⟩) (k + 1) (k + 1), .int .i64 wk], .agg #[.int .i64 0, .int .i64 0, .int .i64 0]]) (by simp [results, Try.results59, go_sem, *]) rfl ⟨_, by rw [HE.out.1, HE.out.2.1, HE.out.2.2.2], .inr ⟨w1.heap.size, k + 1, cur1, by rw [HE.out.2.2.1, HL.out], by omega, set5h sr.h2 (by omega) (by omega), by rw [HE.out.2.2.1]; exact hCu, by omega⟩, set5b sr.below (by omega) (by omega)⟩
end Go.Proofs.Ytbogpgaifbjahaa

/- Slices of structs that came in, opened. -/
namespace Go.Proofs.Ytbogpgaifbjahaa
open Go.ChangeShapes Go.WideShapes Go.ChangeAt Go.RowKit Go.Deep
/-- A slice of structs: each element's cells. -/
def ORow (nc : Nat) (R : List Value → Prop) (w : World) (a : Option Addr) (len cap : Nat) : Prop :=
  len ≤ cap ∧ cap ≤ maxLen ∧ (a = none → cap = 0) ∧ ∀ x, a = some x → ∀ i, i < len → ∃ cs, cs.length = nc ∧ R cs ∧ ∀ j, j < nc → w.cell? (x.add (i * nc + j)) = cs[j]?
theorem openO {H : Type} {enc : TypeId × Value → H} {W : World} {fuel : Nat} {a : Option Addr} {len cap : Nat} {d : DataW H} {p : List MemPlace} {t e : TypeId} {nc : Nat} (R : List Value → Prop)
    (ht : Try.prog.underlying t = some (.slice e)) (ce : Try.prog.cellsOf e = nc) (hR : ∀ n cs x, DataW.trod enc Try.prog W 0 (fun _ => true) true n e cs = some x → R cs)
    (hf : DataW.trod enc Try.prog W 0 (fun _ => true) true fuel t (Value.slice a len cap).cells.toList = some (d, p)) : ORow nc R W a len cap ∧ Holds H d len := by
  rcases open_slice ht hf with ⟨hcs, hx⟩ | ⟨x, l, c, m, n, D, Pl, hcs, hb, hl, hm, hmm, hx, hcell⟩
  · simp [Value.cells] at hcs
    obtain ⟨rfl, rfl, rfl⟩ := hcs
    simp only [Prod.mk.injEq] at hx
    exact ⟨⟨Nat.le_refl _, by unfold maxLen; omega, fun _ => rfl, fun x h => by cases h⟩, .inl ⟨hx.1, rfl⟩⟩
  · simp [Value.cells] at hcs
    obtain ⟨rfl, rfl, rfl⟩ := hcs
    simp only [Prod.mk.injEq] at hx
    simp only [if_true] at hmm
    refine ⟨⟨hl, hm, fun h => (by cases h), fun y hy i hi => ?_⟩, .inr ⟨_, _, hx.1, by simp⟩⟩
    obtain rfl := Option.some.inj hy
    obtain ⟨cs, h1, h2⟩ := hcell i (by omega)
    rw [ce] at h1
    obtain ⟨_, hlen, hc⟩ := World.cells?_some h1
    refine ⟨cs, hlen, hR _ _ _ h2, fun j hj => ?_⟩
    have := hc j (by omega)
    rw [Addr.add_add] at this
    rw [this, List.getElem?_eq_getElem (by omega)]
end Go.Proofs.Ytbogpgaifbjahaa

/- Readings whose every list is within the reach: slices of integers, and slices of structs that hold slices, opened with that. -/
namespace Go.Proofs.Ytbogpgaifbjahaa
open Go.ChangeShapes Go.WideShapes Go.ChangeAt Go.RowKit Go.Deep
/-- Each list of a reading is within the reach. -/
def Sz {H : Type} (t : TypeId) (d : DataW H) : Prop := ∀ n ∈ d.weights Try.prog t, n ≤ reachBytes
theorem weightsEach_mem {H : Type} : ∀ {ts : List TypeId} {ds : List (DataW H)} {n : Nat}, n ∈ DataW.weightsEach Try.prog ts ds → ∃ (j : Nat) (t : TypeId) (d : DataW H), ts[j]? = some t ∧ ds[j]? = some d ∧ n ∈ d.weights Try.prog t
  | t :: ts, d :: ds, n, h => by
    simp only [DataW.weightsEach, List.mem_append] at h
    rcases h with h | h
    · exact ⟨0, t, d, rfl, rfl, h⟩
    · obtain ⟨j, t', d', h1, h2, h3⟩ := weightsEach_mem h
      exact ⟨j + 1, t', d', h1, h2, h3⟩
  | [], _, _, h => by simp [DataW.weightsEach] at h
  | _ :: _, [], _, h => by simp [DataW.weightsEach] at h
theorem weightsAll_mem {H : Type} {e : TypeId} : ∀ {ds : List (DataW H)} {d : DataW H}, d ∈ ds → ∀ n ∈ d.weights Try.prog e, n ∈ DataW.weightsAll Try.prog e ds
  | x :: r, d, hd, n, hn => by
    simp only [DataW.weightsAll, List.mem_append]
    rcases List.mem_cons.1 hd with rfl | hd
    · exact .inl hn
    · exact .inr (weightsAll_mem hd n hn)
/-- An argument's. -/
theorem sz_arg {H : Type} {ts : List TypeId} {ds : List (DataW H)} (h : (DataW.weightsEach Try.prog ts ds).all (· ≤ reachBytes) = true) {j : Nat} {t : TypeId} {d : DataW H} (ht : ts[j]? = some t) (hd : ds[j]? = some d) : Sz t d := fun n hn => by
  simpa using List.all_eq_true.1 h n (DataW.weights_mem_each ht hd n hn)
theorem Sz.slice {H : Type} {t e : TypeId} {el sp : List (DataW H)} (h : Sz t (.slice el sp)) (hu : Try.prog.underlying t = some (.slice e)) : (el.length + sp.length) * Try.prog.bytesOf e ≤ reachBytes ∧ ∀ x ∈ el, Sz e x := by
  refine ⟨h _ (by simp [DataW.weights, hu]), fun x hx n hn => h n ?_⟩
  simp only [DataW.weights, hu]
  exact List.mem_cons_of_mem _ (List.mem_append_left _ (weightsAll_mem hx n hn))
theorem Sz.part {H : Type} {t : TypeId} {fs : Array Field} {ps : List (DataW H)} (h : Sz t (.agg ps)) (hu : Try.prog.underlying t = some (.struct fs)) {j : Nat} {f : Field} {d : DataW H} (hf : fs[j]? = some f) (hd : ps[j]? = some d) : Sz f.type d := fun n hn => by
  refine h n ?_
  simp only [DataW.weights, hu]
  refine DataW.weights_mem_each (j := j) ?_ hd n hn
  rw [List.getElem?_map, Array.getElem?_toList, hf]
  rfl
/-- A slice of integers, and its reach. -/
theorem openIz {H : Type} {enc : TypeId × Value → H} {W : World} {fuel : Nat} {a : Option Addr} {len cap : Nat} {d : DataW H} {p : List MemPlace} {t e : TypeId} {k : IntKind} {b : Nat}
    (ht : Try.prog.underlying t = some (.slice e)) (he : Try.prog.underlying e = some (.int k)) (hc : Try.prog.cellsOf e = 1) (hb : Try.prog.bytesOf e = b)
    (hf : DataW.trod enc Try.prog W 0 (fun _ => true) true fuel t (Value.slice a len cap).cells.toList = some (d, p)) (hs : Sz t d) : ∃ zs, IRow k W a len cap zs ∧ len * b ≤ 140737488351232 := by
  obtain ⟨zs, h1, h2⟩ := openI ht he hc hf
  refine ⟨zs, h1, ?_⟩
  rcases h2 with ⟨_, h0⟩ | ⟨el, sp, rfl, hl⟩
  · rw [h0]; omega
  · have := (hs.slice ht).1
    rw [hb, hl] at this
    simp only [reachBytes] at this
    have e2 : len * b ≤ (len + sp.length) * b := Nat.mul_le_mul_right _ (by omega)
    omega
/-- A field that is a slice, whatever its cells are. -/
theorem openF {H : Type} {enc : TypeId × Value → H} {W : World} {fuel : Nat} {cs : List Value} {x : DataW H × List MemPlace} {t e : TypeId} {k : IntKind} {b : Nat}
    (ht : Try.prog.underlying t = some (.slice e)) (he : Try.prog.underlying e = some (.int k)) (hc : Try.prog.cellsOf e = 1) (hb : Try.prog.bytesOf e = b)
    (hf : DataW.trod enc Try.prog W 0 (fun _ => true) true fuel t cs = some x) (hs : Sz t x.1) : ∃ a len cap zs, cs = [.slice a len cap] ∧ IRow k W a len cap zs ∧ len * b ≤ 140737488351232 := by
  rcases open_slice ht hf with ⟨rfl, _⟩ | ⟨a, l, c, m, n, D, Pl, rfl, _⟩
  · obtain ⟨zs, h1, h2⟩ := openIz (a := none) (len := 0) (cap := 0) (d := x.1) (p := x.2) ht he hc hb hf hs
    exact ⟨none, 0, 0, zs, rfl, h1, h2⟩
  · obtain ⟨zs, h1, h2⟩ := openIz (a := some a) (len := l) (cap := c) (d := x.1) (p := x.2) ht he hc hb hf hs
    exact ⟨some a, l, c, zs, rfl, h1, h2⟩
/-- A slice of structs that may hold slices. -/
theorem openOz {H : Type} {enc : TypeId × Value → H} {W : World} {fuel : Nat} {a : Option Addr} {len cap : Nat} {d : DataW H} {p : List MemPlace} {t e : TypeId} {nc b : Nat} (R : List Value → Prop)
    (ht : Try.prog.underlying t = some (.slice e)) (ce : Try.prog.cellsOf e = nc) (hb : Try.prog.bytesOf e = b) (hR : ∀ n cs x, DataW.trod enc Try.prog W 0 (fun _ => true) true n e cs = some x → Sz e x.1 → R cs)
    (hf : DataW.trod enc Try.prog W 0 (fun _ => true) true fuel t (Value.slice a len cap).cells.toList = some (d, p)) (hs : Sz t d) : ORow nc R W a len cap ∧ len * b ≤ 140737488351232 := by
  rcases open_slice ht hf with ⟨hcs, hx⟩ | ⟨x, l, c, m, n, D, Pl, hcs, _, hl, hm, hmm, hx, hcell⟩
  · simp [Value.cells] at hcs
    obtain ⟨rfl, rfl, rfl⟩ := hcs
    exact ⟨⟨Nat.le_refl _, by unfold maxLen; omega, fun _ => rfl, fun x h => by cases h⟩, by omega⟩
  · simp [Value.cells] at hcs
    obtain ⟨rfl, rfl, rfl⟩ := hcs
    simp only [Prod.mk.injEq] at hx
    simp only [if_true] at hmm
    obtain ⟨rfl, -⟩ := hx
    obtain ⟨hz, hz2⟩ := hs.slice ht
    refine ⟨⟨hl, hm, fun h => (by cases h), fun y hy i hi => ?_⟩, ?_⟩
    · obtain rfl := Option.some.inj hy
      obtain ⟨cs, h1, h2⟩ := hcell i (by omega)
      rw [ce] at h1
      obtain ⟨_, hlen, hc⟩ := World.cells?_some h1
      refine ⟨cs, hlen, hR _ _ _ h2 (hz2 _ (List.mem_map.2 ⟨i, by simpa using hi, rfl⟩)), fun j hj => ?_⟩
      have := hc j (by omega)
      rw [Addr.add_add] at this
      exact this
    · rw [hb] at hz
      simp only [List.length_map, List.length_range, reachBytes] at hz
      have e2 : len * b ≤ (len + (m - len)) * b := Nat.mul_le_mul_right _ (by omega)
      omega
/-- A field that is a slice of such structs. -/
theorem openFo {H : Type} {enc : TypeId × Value → H} {W : World} {fuel : Nat} {cs : List Value} {x : DataW H × List MemPlace} {t e : TypeId} {nc b : Nat} (R : List Value → Prop)
    (ht : Try.prog.underlying t = some (.slice e)) (ce : Try.prog.cellsOf e = nc) (hb : Try.prog.bytesOf e = b) (hR : ∀ n cs x, DataW.trod enc Try.prog W 0 (fun _ => true) true n e cs = some x → Sz e x.1 → R cs)
    (hf : DataW.trod enc Try.prog W 0 (fun _ => true) true fuel t cs = some x) (hs : Sz t x.1) : ∃ a len cap, cs = [.slice a len cap] ∧ ORow nc R W a len cap ∧ len * b ≤ 140737488351232 := by
  rcases open_slice ht hf with ⟨rfl, _⟩ | ⟨a, l, c, m, n, D, Pl, rfl, _⟩
  · have := openOz (a := none) (len := 0) (cap := 0) (d := x.1) (p := x.2) R ht ce hb hR hf hs
    exact ⟨none, 0, 0, rfl, this⟩
  · have := openOz (a := some a) (len := l) (cap := c) (d := x.1) (p := x.2) R ht ce hb hR hf hs
    exact ⟨some a, l, c, rfl, this⟩
end Go.Proofs.Ytbogpgaifbjahaa

/- Fronts of models in plain numbers; what is known of each op of a well-formed model; ops that came in. -/
namespace Go.Proofs.Ytbogpgaifbjahaa
open Go.ChangeShapes Go.WideShapes Go.ChangeAt Go.RowKit
set_option linter.unusedVariables false
theorem stG_step {O : Nat → Nat → Int} {s0 : Int × Int × Int} {n : Nat} {L : List (Int × Int × Int)} {wk : Int} (h : stG O s0 (n + 1) = (0, 0, L, wk)) :
    ∃ L0 wk0, stG O s0 n = (0, 0, L0, wk0) ∧ oT (O n) L0 wk0 = 0 ∧ L = L0 ++ [oM (O n) L0] ∧ wk = wk0 + oW (O n) L0 := by
  obtain ⟨e, t, L0, wk0, h0⟩ : ∃ e t L0 wk0, stG O s0 n = (e, t, L0, wk0) := ⟨_, _, _, _, rfl⟩
  by_cases he : e = 0
  · have ht : t = 0 := stG_at0 h0 he
    subst he ht
    by_cases hx : oT (O n) L0 wk0 = 0
    · rw [stG_ok h0 hx] at h
      simp only [Prod.mk.injEq, true_and] at h
      exact ⟨L0, wk0, h0, hx, h.1.symm, h.2.symm⟩
    · rw [stG_err h0 rfl hx] at h
      simp only [Prod.mk.injEq] at h
      exact absurd h.1 hx
  · have := stG_bad (O := O) (s0 := s0) (i := n) (by rw [h0]; exact he) 1
    rw [h, h0] at this
    simp only [Prod.mk.injEq] at this
    exact absurd this.1.symm he
theorem stG_pre {O : Nat → Nat → Int} {s0 : Int × Int × Int} (hs : vS3 s0 = true) : ∀ (n : Nat) (L : List (Int × Int × Int)) (wk : Int), stG O s0 n = (0, 0, L, wk) → ∀ i, i ≤ n → ∃ wi, stG O s0 i = (0, 0, L.take (i + 1), wi) ∧ 0 ≤ wi ∧ wi ≤ wk
  | 0, L, wk, h, i, hi => by
    obtain rfl : i = 0 := by omega
    obtain ⟨h1, -, h3, -⟩ := stG_inv hs 0 L wk h
    exact ⟨wk, by rw [List.take_of_length_le (by omega)]; exact h, h3, Int.le_refl _⟩
  | n + 1, L, wk, h, i, hi => by
    obtain ⟨h1, -, h3, -⟩ := stG_inv hs (n + 1) L wk h
    by_cases e : i = n + 1
    · subst e
      exact ⟨wk, by rw [List.take_of_length_le (by omega)]; exact h, h3, Int.le_refl _⟩
    · obtain ⟨L0, wk0, h0, hx, hL, hw⟩ := stG_step h
      obtain ⟨i1, i2, i3, i4⟩ := stG_inv hs n L0 wk0 h0
      obtain ⟨wi, g1, g2, g3⟩ := stG_pre hs n L0 wk0 h0 i (by omega)
      obtain ⟨-, t2, -, -⟩ := tk_0 hx i2
      have t2' : 0 ≤ oW (O n) L0 := t2
      refine ⟨wi, ?_, g2, by omega⟩
      rw [g1, hL, List.take_append_of_le_length (by omega)]
theorem stG_fault {O : Nat → Nat → Int} {s0 : Int × Int × Int} : ∀ (n : Nat) (e t : Int) (L : List (Int × Int × Int)) (wk : Int), stG O s0 n = (e, t, L, wk) → e ≠ 0 → L = [] ∧ wk = 0 ∧ ∃ j, j < n ∧ t = (j : Int) + 1 ∧ ∃ L' wk', stG O s0 j = (0, 0, L', wk')
  | 0, e, t, L, wk, h, he => by
    unfold stG at h
    simp only [Prod.mk.injEq] at h
    exact absurd h.1.symm he
  | n + 1, e, t, L, wk, h, he => by
    obtain ⟨e0, t0, L0, wk0, h0⟩ : ∃ e t L0 wk0, stG O s0 n = (e, t, L0, wk0) := ⟨_, _, _, _, rfl⟩
    by_cases hb : e0 = 0
    · have ht : t0 = 0 := stG_at0 h0 hb
      subst hb ht
      by_cases hx : oT (O n) L0 wk0 = 0
      · rw [stG_ok h0 hx] at h
        simp only [Prod.mk.injEq] at h
        exact absurd h.1.symm he
      · rw [stG_err h0 rfl hx] at h
        simp only [Prod.mk.injEq] at h
        exact ⟨h.2.2.1.symm, h.2.2.2.symm, n, by omega, h.2.1.symm, L0, wk0, h0⟩
    · have := stG_bad (O := O) (s0 := s0) (i := n) (by rw [h0]; exact hb) 1
      rw [h, h0] at this
      simp only [Prod.mk.injEq] at this
      obtain ⟨rfl, rfl, rfl, rfl⟩ := this
      obtain ⟨a1, a2, j, a3, a4⟩ := stG_fault n e t L wk h0 he
      exact ⟨a1, a2, j, by omega, a4⟩
theorem ouE_front {h w c lo hi ot : Int} {on j : Nat} (q : ouE h w c lo hi ot on = 0) (hj : j ≤ on) : ouE h w c lo hi (j : Int) j = 0 := by
  obtain ⟨a1, a2, a3, -, -⟩ := ouE_0 q
  unfold ouE
  rw [if_neg (by rw [a1]; decide), if_neg (by rw [a2]; decide), if_neg (by omega), if_neg (by omega)]
theorem gtR_of {O : Nat → Nat → Int} {h w c lo hi ot : Int} {on : Nat} (q : ouE h w c lo hi ot on = 0) : gtR O h w c lo hi ot on = stG O (h, w, c) on := by unfold gtR; rw [q, if_neg (by decide)]
/-- A model that isn't well-formed. -/
theorem gtR_err {O : Nat → Nat → Int} {h w c lo hi ot e t wk : Int} {on : Nat} {L : List (Int × Int × Int)} (q : gtR O h w c lo hi ot on = (e, t, L, wk)) (he : e ≠ 0) :
    L = [] ∧ wk = 0 ∧ (t = 0 ∨ ∃ j : Nat, j < on ∧ on ≤ 64 ∧ t = (j : Int) + 1 ∧ ∃ L' wk', gtR O h w c lo hi (j : Int) j = (0, 0, L', wk')) := by
  by_cases hx : ouE h w c lo hi ot on = 0
  · rw [gtR_of hx] at q
    obtain ⟨a1, a2, j, a3, a4, L', wk', a5⟩ := stG_fault on e t L wk q he
    exact ⟨a1, a2, .inr ⟨j, a3, (ouE_0 hx).2.2.1, a4, L', wk', by rw [gtR_of (ouE_front hx (by omega))]; exact a5⟩⟩
  · unfold gtR at q
    rw [if_pos hx] at q
    simp only [Prod.mk.injEq] at q
    exact ⟨q.2.2.1.symm, q.2.2.2.symm, .inl q.2.1.symm⟩
theorem gtR_st {O : Nat → Nat → Int} {h w c lo hi ot t wk : Int} {on : Nat} {L : List (Int × Int × Int)} (q : gtR O h w c lo hi ot on = (0, t, L, wk)) : ouE h w c lo hi ot on = 0 ∧ t = 0 ∧ stG O (h, w, c) on = (0, 0, L, wk) := by
  by_cases hx : ouE h w c lo hi ot on = 0
  · rw [gtR_of hx] at q
    have ht := stG_at0 q rfl
    subst ht
    exact ⟨hx, rfl, q⟩
  · unfold gtR at q
    rw [if_pos hx] at q
    simp only [Prod.mk.injEq] at q
    exact absurd q.1 hx
/-- A well-formed model, and its fronts. -/
theorem gtR_ok {O : Nat → Nat → Int} {h w c lo hi ot t wk : Int} {on : Nat} {L : List (Int × Int × Int)} (q : gtR O h w c lo hi ot on = (0, t, L, wk)) :
    t = 0 ∧ L.length = on + 1 ∧ on ≤ 64 ∧ 0 ≤ wk ∧ wk ≤ 131072 ∧ ∀ k : Nat, k ≤ on → ∃ wi, gtR O h w c lo hi (k : Int) k = (0, 0, L.take (k + 1), wi) ∧ 0 ≤ wi ∧ wi ≤ wk := by
  obtain ⟨hx, rfl, q2⟩ := gtR_st q
  clear q
  have q := q2
  have hv : vS3 (h, w, c) = true := (ouE_0 hx).1
  obtain ⟨h1, -, h3, h4⟩ := stG_inv hv on L wk q
  refine ⟨rfl, h1, (ouE_0 hx).2.2.1, h3, h4, fun k hk => ?_⟩
  obtain ⟨wi, g1, g2⟩ := stG_pre hv on L wk q k hk
  exact ⟨wi, by rw [gtR_of (ouE_front hx hk)]; exact g1, g2⟩
theorem mkE_parts {k m kh kw sh sw tp lf bt rt h w c : Int} (hx : mkE k m kh kw sh sw tp lf bt rt h w c = 0) : mkW k kh kw sh sw tp lf bt rt h w c = 0 := by
  unfold mkE at hx
  by_cases hM : mkM k m = false
  · rw [if_pos hM] at hx; cases hx
  · rw [if_neg hM] at hx
    by_cases hw : mkW k kh kw sh sw tp lf bt rt h w c ≠ 0
    · rw [if_pos hw] at hx; exact absurd hx hw
    · exact Decidable.not_not.1 hw
/-- What is known of one op's shapes: A's and its own. -/
def OpFit (k kh kw sh sw tp lf bt rt : Int) (A B : Int × Int × Int) : Prop :=
  vS B.1 B.2.1 B.2.2 = true ∧ (2 ≤ k ∧ k ≤ 5 → ouR A.1 A.2.1 A.2.2 kh kw sh sw tp lf bt rt = (B.1, B.2.1, 0) ∧ (k ≠ 2 → B.2.2 = A.2.2)) ∧ (6 ≤ k → B = A)
theorem fit_of {k m kh kw sh sw tp lf bt rt : Int} {A : Int × Int × Int} (hx : mkE k m kh kw sh sw tp lf bt rt A.1 A.2.1 A.2.2 = 0) (hv : vS3 (mk3 k m kh kw sh sw tp lf bt rt A) = true) : OpFit k kh kw sh sw tp lf bt rt A (mk3 k m kh kw sh sw tp lf bt rt A) := by
  refine ⟨hv, fun hk => ?_, fun hk => ?_⟩
  · have hw := mkE_parts hx
    unfold mkW at hw
    rw [if_pos hk] at hw
    obtain ⟨r, q, e, ho⟩ : ∃ r q e, ouR A.1 A.2.1 A.2.2 kh kw sh sw tp lf bt rt = (r, q, e) := ⟨_, _, _, rfl⟩
    rw [ho] at hw
    simp only at hw
    subst hw
    by_cases k2 : k = 2
    · have hm : mk3 k m kh kw sh sw tp lf bt rt A = (r, q, m) := by unfold mk3 mkS; rw [if_neg (by omega), if_pos k2, ho]
      rw [hm]
      exact ⟨ho, fun h => absurd k2 h⟩
    · have hm : mk3 k m kh kw sh sw tp lf bt rt A = (r, q, A.2.2) := by unfold mk3 mkS; rw [if_neg (by omega), if_neg k2, if_pos (by omega), ho]
      rw [hm]
      exact ⟨ho, fun _ => rfl⟩
  · unfold mk3 mkS
    rw [if_neg (by omega), if_neg (by omega), if_neg (by omega)]
theorem ShA_take {L : List (Int × Int × Int)} {i n : Nat} (h : i < n) : ShA (L.take n) (i : Int) = ShA L (i : Int) := by
  unfold ShA
  rw [Int.toNat_natCast]
  simp [List.getD, h]
/-- Each op of a well-formed model. -/
theorem gtR_at {O : Nat → Nat → Int} {h w c lo hi ot t wk : Int} {on : Nat} {L : List (Int × Int × Int)} (q : gtR O h w c lo hi ot on = (0, t, L, wk)) :
    ShA L ((0 : Nat) : Int) = (h, w, c) ∧ ∀ i, i < on → ∃ j : Nat, O i 1 = (j : Int) ∧ j ≤ i ∧ OpFit (O i 0) (O i 4) (O i 5) (O i 6) (O i 7) (O i 8) (O i 9) (O i 10) (O i 11) (ShA L (j : Int)) (ShA L ((i + 1 : Nat) : Int)) := by
  obtain ⟨hx, rfl, q2⟩ := gtR_st q
  clear q
  have q := q2
  have hv : vS3 (h, w, c) = true := (ouE_0 hx).1
  refine ⟨?_, fun i hi => ?_⟩
  · obtain ⟨wi, g1, -⟩ := stG_pre hv on L wk q 0 (by omega)
    unfold stG at g1
    simp only [Prod.mk.injEq, true_and] at g1
    rw [← ShA_take (n := 0 + 1) (by omega), ← g1.1]
    rfl
  · obtain ⟨wi, g1, -⟩ := stG_pre hv on L wk q (i + 1) (by omega)
    obtain ⟨L0, wk0, h0, hx0, hL, -⟩ := stG_step g1
    obtain ⟨w2, g2, -⟩ := stG_pre hv on L wk q i (by omega)
    rw [g2] at h0
    simp only [Prod.mk.injEq, true_and] at h0
    obtain ⟨rfl, rfl⟩ := h0
    obtain ⟨i1, i2, -⟩ := stG_inv hv i _ _ g2
    obtain ⟨t1, -, -, ⟨a0, a1⟩, -, t6⟩ := tk_0 hx0 i2
    obtain ⟨j, hj⟩ := Int.eq_ofNat_of_zero_le a0
    rw [hj] at a1 t1 t6
    refine ⟨j, hj, by omega, ?_⟩
    have e1 : ShA (L.take (i + 1)) (j : Int) = ShA L (j : Int) := ShA_take (by omega)
    have e2 : ShA L ((i + 1 : Nat) : Int) = mk3 (O i 0) (O i 3) (O i 4) (O i 5) (O i 6) (O i 7) (O i 8) (O i 9) (O i 10) (O i 11) (ShA L (j : Int)) := by
      rw [← ShA_take (n := i + 1 + 1) (by omega), hL]
      unfold ShA at e1 ⊢
      rw [Int.toNat_natCast]
      simp only [List.getD]
      rw [List.getElem?_append_right (by omega), i1, Nat.sub_self]
      unfold oM ShA
      rw [hj, Int.toNat_natCast]
      rw [Int.toNat_natCast] at e1
      simp only [List.getElem?_cons_zero, Option.getD_some]
      rw [e1]
      rfl
    rw [e1] at t1 t6
    rw [e2]
    exact fit_of t6 t1
/-! ### Ops that came in -/
def OpIn (w : World) (cs : List Value) : Prop :=
  ∃ (b0 : Int) (b1 : Int) (b2 : Int) (b3 : Int) (b4 : Int) (b5 : Int) (b6 : Int) (b7 : Int) (b8 : Int) (b9 : Int) (b10 : Int) (b11 : Int) (b12 : Option Addr) (l12 c12 : Nat) (z12 : List Int) (b13 : Option Addr) (l13 c13 : Nat) (z13 : List Int) (b14 : Int) (b15 : Int) (b16 : Int) (b17 : Int) (b18 : Int) (b19 : Int) (b20 : Int) (b21 : Int), cs = [.int .i64 b0, .int .i64 b1, .int .i64 b2, .int .i64 b3, .int .i64 b4, .int .i64 b5, .int .i64 b6, .int .i64 b7, .int .i64 b8, .int .i64 b9, .int .i64 b10, .int .i64 b11, .slice b12 l12 c12, .slice b13 l13 c13, .int .i64 b14, .int .i64 b15, .int .i64 b16, .int .i64 b17, .int .i64 b18, .int .i64 b19, .int .i64 b20, .int .i64 b21] ∧
    (Lit.int .i64 b0).wf = true ∧ (Lit.int .i64 b1).wf = true ∧ (Lit.int .i64 b2).wf = true ∧ (Lit.int .i64 b3).wf = true ∧ (Lit.int .i64 b4).wf = true ∧ (Lit.int .i64 b5).wf = true ∧ (Lit.int .i64 b6).wf = true ∧ (Lit.int .i64 b7).wf = true ∧ (Lit.int .i64 b8).wf = true ∧ (Lit.int .i64 b9).wf = true ∧ (Lit.int .i64 b10).wf = true ∧ (Lit.int .i64 b11).wf = true ∧
    IRow .i16 w b12 l12 c12 z12 ∧ l12 * 2 ≤ 140737488351232 ∧ IRow .i32 w b13 l13 c13 z13 ∧ l13 * 4 ≤ 140737488351232 ∧
    (Lit.int .i64 b14).wf = true ∧ (Lit.int .i64 b15).wf = true ∧ (Lit.int .i64 b16).wf = true ∧ (Lit.int .i64 b17).wf = true ∧ (Lit.int .i64 b18).wf = true ∧ (Lit.int .i64 b19).wf = true ∧ (Lit.int .i64 b20).wf = true ∧ (Lit.int .i64 b21).wf = true
/-- One op in memory, with its lists. -/
def LOp (w : World) (x : Addr) (o : Nat → Int) (z b : List Int) : Prop :=
  ∃ (wa : Option Addr) (lw cw : Nat) (ba : Option Addr) (lb cb : Nat), o 12 = (lw : Int) ∧ o 13 = (lb : Int) ∧ (∀ j v, (opl o wa lw cw ba lb cb)[j]? = some v → w.cell? (x.add j) = some v) ∧ IRow .i16 w wa lw cw z ∧ IRow .i32 w ba lb cb b ∧ lw * 2 ≤ 140737488351232 ∧ lb * 4 ≤ 140737488351232
/-- Ops in memory, with their lists. -/
def LRow (w : World) (oa : Option Addr) (on oc : Nat) (O : Nat → Nat → Int) (Z B : Nat → List Int) : Prop :=
  on ≤ oc ∧ oc ≤ maxLen ∧ (oa = none → oc = 0) ∧ ∀ x, oa = some x → ∀ i, i < on → LOp w (x.add (i * 22)) (O i) (Z i) (B i)
theorem LRow.m {w : World} {oa : Option Addr} {on oc : Nat} {O : Nat → Nat → Int} {Z B : Nat → List Int} (h : LRow w oa on oc O Z B) : MRow w oa on oc O :=
  ⟨h.1, h.2.1, h.2.2.1, fun x hx i hi => by
    obtain ⟨wa, lw, cw, ba, lb, cb, h1, h2, h3, -⟩ := h.2.2.2 x hx i hi
    exact ⟨wa, lw, cw, ba, lb, cb, h1, h2, fun j v hj => by rw [← Addr.add_add]; exact h3 j v hj⟩⟩
theorem LOp.below {w w' : World} {x : Addr} {o : Nat → Int} {z b : List Int} (h : LOp w x o z b) (g : Below w.heap.size w w') : LOp w' x o z b := by
  obtain ⟨wa, lw, cw, ba, lb, cb, h1, h2, h3, h4, h5, h6⟩ := h
  exact ⟨wa, lw, cw, ba, lb, cb, h1, h2, fun j v hj => (g.cell (World.block_lt_of_cell? w _ (h3 j v hj))).trans (h3 j v hj), h4.below g, h5.below g, h6⟩
theorem LRow.below {w w' : World} {oa : Option Addr} {on oc : Nat} {O : Nat → Nat → Int} {Z B : Nat → List Int} (h : LRow w oa on oc O Z B) (g : Below w.heap.size w w') : LRow w' oa on oc O Z B :=
  ⟨h.1, h.2.1, h.2.2.1, fun x hx i hi => (h.2.2.2 x hx i hi).below g⟩
def oL (b0 b1 b2 b3 b4 b5 b6 b7 b8 b9 b10 b11 b12 b13 b14 b15 b16 b17 b18 b19 b20 b21 : Int) (j : Nat) : Int := [b0, b1, b2, b3, b4, b5, b6, b7, b8, b9, b10, b11, b12, b13, b14, b15, b16, b17, b18, b19, b20, b21].getD j 0
theorem lop_of {w : World} {x : Addr} {cs : List Value} (h : OpIn w cs) (hc : ∀ j, j < 22 → w.cell? (x.add j) = cs[j]?) : ∃ o z b, LOp w x o z b := by
  obtain ⟨b0, b1, b2, b3, b4, b5, b6, b7, b8, b9, b10, b11, b12, l12, c12, z12, b13, l13, c13, z13, b14, b15, b16, b17, b18, b19, b20, b21, rfl, -, -, -, -, -, -, -, -, -, -, -, -, h1, h2, h3, h4, -⟩ := h
  refine ⟨oL b0 b1 b2 b3 b4 b5 b6 b7 b8 b9 b10 b11 l12 l13 b14 b15 b16 b17 b18 b19 b20 b21, z12, z13, b12, l12, c12, b13, l13, c13, rfl, rfl, fun j v hj => ?_, h1, h3, h2, h4⟩
  have hj' : j < 22 := (List.getElem?_eq_some_iff.1 hj).1
  rw [hc j hj', ← hj]
  rfl
theorem lrow_of {w : World} {oa : Option Addr} {on oc : Nat} (h : ORow 22 (OpIn w) w oa on oc) : ∃ O Z B, LRow w oa on oc O Z B := by
  obtain ⟨h1, h2, h3, h4⟩ := h
  cases oa with
  | none => exact ⟨fun _ _ => 0, fun _ => [], fun _ => [], h1, h2, h3, fun x hx => by cases hx⟩
  | some x =>
    have q : ∀ i, ∃ y : (Nat → Int) × List Int × List Int, i < on → LOp w (x.add (i * 22)) y.1 y.2.1 y.2.2 := by
      intro i
      by_cases hi : i < on
      · obtain ⟨cs, -, g1, g2⟩ := h4 x rfl i hi
        obtain ⟨o, z, b, g⟩ := lop_of (x := x.add (i * 22)) g1 (fun j hj => by rw [Addr.add_add]; exact g2 j hj)
        exact ⟨(o, z, b), fun _ => g⟩
      · exact ⟨(fun _ => 0, [], []), fun h => absurd h hi⟩
    obtain ⟨f, hf⟩ := Classical.skolem.1 q
    exact ⟨fun i => (f i).1, fun i => (f i).2.1, fun i => (f i).2.2, h1, h2, h3, fun y hy i hi => by cases hy; exact hf i hi⟩
end Go.Proofs.Ytbogpgaifbjahaa

/- Sums of ops that reduce, in plain numbers: their terms, their bias, and what is known of such an op of a well-formed model. -/
namespace Go.Proofs.Ytbogpgaifbjahaa
open Go.ChangeShapes Go.WideShapes Go.ChangeAt Go.RowKit
set_option linter.unusedVariables false
/-- An op that reduces: its kind, its window, the shape that it reads, the one that it makes, how long its lists are. -/
def Sit (k kh kw sh sw tp lf bt rt h w c H V C : Int) (lw lb : Nat) : Prop :=
  (1 ≤ k ∧ k ≤ 4) ∧ vS h w c = true ∧ vS H V C = true ∧ (2 ≤ k → ouR h w c kh kw sh sw tp lf bt rt = (H, V, 0)) ∧ (k = 1 → H = 1 ∧ V = 1) ∧ (2 ≤ k → (1 ≤ kh ∧ kh ≤ 32) ∧ (1 ≤ kw ∧ kw ≤ 32)) ∧
    (k ≤ 3 → (lw : Int) = C * stR k kh kw h w c ∧ (lb : Int) = C) ∧ (3 ≤ k → C = c) ∧ (1 ≤ stR k kh kw h w c ∧ stR k kh kw h w c ≤ 512)
theorem op_sit {k a b m kh kw sh sw tp lf bt rt : Int} {lw lb : Nat} {sm ss um us z p lo hi wk : Int} {L : List (Int × Int × Int)} (hx : tkE k a b m kh kw sh sw tp lf bt rt lw lb sm ss um us z p lo hi L wk = 0) (hk : 1 ≤ k ∧ k ≤ 4) (hv : ∀ s ∈ L, vS3 s = true)
    {h w c H V C : Int} (hA : ShA L a = (h, w, c)) (hB : mk3 k m kh kw sh sw tp lf bt rt (h, w, c) = (H, V, C)) : Sit k kh kw sh sw tp lf bt rt h w c H V C lw lb := by
  obtain ⟨t1, -, -, ⟨a0, a1⟩, -, t6⟩ := tk_0 hx hv
  have hg : vS h w c = true := by
    obtain ⟨i, rfl⟩ := Int.eq_ofNat_of_zero_le a0
    have := hv _ (ShA_mem (show i < L.length by omega))
    rw [hA] at this
    exact this
  have h1 : opE k a b m kh kw sh sw tp lf bt rt lw lb sm ss um us z p lo hi L = 0 := by
    unfold tkE at hx
    by_cases q : opE k a b m kh kw sh sw tp lf bt rt lw lb sm ss um us z p lo hi L ≠ 0
    · rw [if_pos q] at hx; exact hx
    · exact Decidable.not_not.1 q
  rw [hA] at t1 t6
  rw [hB] at t1
  have fit := fit_of (A := (h, w, c)) t6 (by rw [hB]; exact t1)
  rw [hB] at fit
  obtain ⟨f1, f2, -⟩ := fit
  have hw : 2 ≤ k ∧ k ≤ 5 → (1 ≤ kh ∧ kh ≤ 32) ∧ (1 ≤ kw ∧ kw ≤ 32) := mkE_win t6
  have hst := stR_bd (k := k) (kh := kh) (kw := kw) (by omega) hg hw
  unfold opE at h1
  rw [hA] at h1
  rw [hB] at h1
  by_cases q1 : fmE k a b L.length (ozB k b m kh kw sh sw tp lf bt rt lw lb sm ss um us z p) ≠ 0
  · rw [if_pos q1] at h1; exact absurd h1 q1
  rw [if_neg q1] at h1
  simp only at h1
  rw [t6, if_neg (by decide), if_neg (by omega)] at h1
  by_cases q2 : rdB k = true ∧ 512 < st3 k kh kw (h, w, c)
  · rw [if_pos q2] at h1; cases h1
  rw [if_neg q2] at h1
  have h512 : stR k kh kw h w c ≤ 512 := by
    by_cases q : stR k kh kw h w c ≤ 512
    · exact q
    · exact absurd ⟨decide_eq_true (by omega), by show 512 < stR k kh kw h w c; omega⟩ q2
  unfold nuE at h1
  have hle : leB k C (st3 k kh kw (h, w, c)) lw lb = true := by
    cases q : leB k C (st3 k kh kw (h, w, c)) lw lb with
    | true => rfl
    | false => rw [q, if_pos rfl] at h1; cases h1
  have hle' := of_decide_eq_true hle
  refine ⟨hk, hg, f1, fun q => (f2 (by omega)).1, fun q => ?_, fun q => hw (by omega), hle', fun q => (f2 (by omega)).2 (by omega), hst.1, h512⟩
  subst q
  have : mk3 1 m kh kw sh sw tp lf bt rt (h, w, c) = (1, 1, m) := by unfold mk3 mkS; rw [if_pos rfl]
  rw [this] at hB
  simp only [Prod.mk.injEq] at hB
  exact ⟨hB.1.symm, hB.2.1.symm⟩
/-- An op that reduces, of a well-formed model. -/
theorem sit_of {O : Nat → Nat → Int} {h w c lo hi ot t wk : Int} {on : Nat} {L : List (Int × Int × Int)} (q : gtR O h w c lo hi ot on = (0, t, L, wk)) {i : Nat} (hi0 : i < on) (hk : 1 ≤ O i 0 ∧ O i 0 ≤ 4) :
    ∃ j : Nat, O i 1 = (j : Int) ∧ j ≤ i ∧ ∀ x y z H V C, ShA L (j : Int) = (x, y, z) → ShA L ((i + 1 : Nat) : Int) = (H, V, C) → Sit (O i 0) (O i 4) (O i 5) (O i 6) (O i 7) (O i 8) (O i 9) (O i 10) (O i 11) x y z H V C (O i 12).toNat (O i 13).toNat := by
  obtain ⟨hx, rfl, q2⟩ := gtR_st q
  clear q
  have q := q2
  have hv : vS3 (h, w, c) = true := (ouE_0 hx).1
  obtain ⟨wi, g1, -⟩ := stG_pre hv on L wk q (i + 1) (by omega)
  obtain ⟨L0, wk0, h0, hx0, hL, -⟩ := stG_step g1
  obtain ⟨w2, g2, -⟩ := stG_pre hv on L wk q i (by omega)
  rw [g2] at h0
  simp only [Prod.mk.injEq, true_and] at h0
  obtain ⟨rfl, rfl⟩ := h0
  obtain ⟨i1, i2, -⟩ := stG_inv hv i _ _ g2
  obtain ⟨t1, -, -, ⟨a0, a1⟩, -, t6⟩ := tk_0 hx0 i2
  obtain ⟨j, hj⟩ := Int.eq_ofNat_of_zero_le a0
  rw [hj] at a1
  have e1 : ShA (L.take (i + 1)) (j : Int) = ShA L (j : Int) := ShA_take (by omega)
  have e2 : ShA L ((i + 1 : Nat) : Int) = mk3 (O i 0) (O i 3) (O i 4) (O i 5) (O i 6) (O i 7) (O i 8) (O i 9) (O i 10) (O i 11) (ShA L (j : Int)) := by
    rw [← ShA_take (n := i + 1 + 1) (by omega), hL]
    unfold ShA at e1 ⊢
    rw [Int.toNat_natCast]
    simp only [List.getD]
    rw [List.getElem?_append_right (by omega), i1, Nat.sub_self]
    unfold oM ShA
    rw [hj, Int.toNat_natCast]
    rw [Int.toNat_natCast] at e1
    simp only [List.getElem?_cons_zero, Option.getD_some]
    rw [e1]
    rfl
  refine ⟨j, hj, by omega, fun x y z H V C hA hB => ?_⟩
  exact op_sit hx0 hk i2 (by rw [hj, e1]; exact hA) (by rw [← hB, e2, hA])
/-! ### The terms -/
/-- The place of channel c where a tap covers p. -/
def cov (C p c : Int) : Int := if p = -1 then -1 else p * C + c
/-- What tap q covers, the corner being at t, u. -/
def tpc (h w kw t u q : Int) : Int := plc h w (t + q / kw) (u + q % kw)
def plA (k C ch h w kw t u i : Int) : Int := if k = 1 then i else if k = 2 then cov C (tpc h w kw t u (i / C)) (i % C) else cov C (tpc h w kw t u i) (ch - 1)
def wgA (k ch st : Int) (z : List Int) (i : Int) : Int := if k = 4 then 1 else z.getD ((ch - 1) * st + i).toNat 0
def biA (k ch : Int) (b : List Int) : Int := if k = 4 then 0 else b.getD (ch - 1).toNat 0
def tmL (k C ch h w kw t u st : Int) (z : List Int) (n : Nat) : List (Int × Int) := (List.range n).map fun (i : Nat) => (wgA k ch st z i, plA k C ch h w kw t u i)
theorem tmL_len (k C ch h w kw t u st : Int) (z : List Int) (n : Nat) : (tmL k C ch h w kw t u st z n).length = n := by simp [tmL]
theorem tmL_succ (k C ch h w kw t u st : Int) (z : List Int) (n : Nat) : tmL k C ch h w kw t u st z (n + 1) = tmL k C ch h w kw t u st z n ++ [(wgA k ch st z n, plA k C ch h w kw t u n)] := by simp [tmL, List.range_succ]
/-- The terms of a channel at a position. -/
def siL (k kh kw sh sw tp lf bt rt h w c ch at' : Int) (z : List Int) : List (Int × Int) :=
  tmL k c ch h w kw (coR h w c kh kw sh sw tp lf bt rt at').1 (coR h w c kh kw sh sw tp lf bt rt at').2.1 (stR k kh kw h w c) z (stR k kh kw h w c).toNat
/-- The error of an op that is asked. -/
def fiE (O : Nat → Nat → Int) (h w c lo hi ot : Int) (on : Nat) (op : Int) : Int :=
  if (gtR O h w c lo hi ot on).1 ≠ 0 then (gtR O h w c lo hi ot on).1 else if ¬ (1 ≤ op ∧ op ≤ (on : Int)) then 3 else if rdB (O (op - 1).toNat 0) = false then 81 else 0
theorem fiE_err {O : Nat → Nat → Int} {h w c lo hi ot op e : Int} {on : Nat} (g : (gtR O h w c lo hi ot on).1 = e) (he : e ≠ 0) : fiE O h w c lo hi ot on op = e := by unfold fiE; rw [g, if_pos he]
theorem fiE_3 {O : Nat → Nat → Int} {h w c lo hi ot op : Int} {on : Nat} (g : (gtR O h w c lo hi ot on).1 = 0) (ho : ¬ (1 ≤ op ∧ op ≤ (on : Int))) : fiE O h w c lo hi ot on op = 3 := by unfold fiE; rw [g, if_neg (by decide), if_pos ho]
theorem fiE_81 {O : Nat → Nat → Int} {h w c lo hi ot : Int} {on i : Nat} (g : (gtR O h w c lo hi ot on).1 = 0) (ho : i < on) (hk : rdB (O i 0) = false) : fiE O h w c lo hi ot on ((i : Int) + 1) = 81 := by
  unfold fiE; rw [g, if_neg (by decide), if_neg (by omega), show ((i : Int) + 1 - 1).toNat = i by omega, hk, if_pos rfl]
theorem fiE_0 {O : Nat → Nat → Int} {h w c lo hi ot : Int} {on i : Nat} (g : (gtR O h w c lo hi ot on).1 = 0) (ho : i < on) (hk : rdB (O i 0) = true) : fiE O h w c lo hi ot on ((i : Int) + 1) = 0 := by
  unfold fiE; rw [g, if_neg (by decide), if_neg (by omega), show ((i : Int) + 1 - 1).toNat = i by omega, hk, if_neg (by decide)]
end Go.Proofs.Ytbogpgaifbjahaa

/- What the small functions of package terms return: how many terms, channels and positions an op has; its bias; a weight; the channels that are read; a place. -/
namespace Go.Proofs.Ytbogpgaifbjahaa
open Go.ChangeShapes Go.WideShapes Go.ChangeAt Go.RowKit
set_option linter.unusedVariables false
theorem Sit.win {k kh kw sh sw tp lf bt rt h w c H V C : Int} {lw lb : Nat} (s : Sit k kh kw sh sw tp lf bt rt h w c H V C lw lb) (q : k ≠ 1) : (1 ≤ kh ∧ kh ≤ 32) ∧ (1 ≤ kw ∧ kw ≤ 32) := s.2.2.2.2.2.1 (by have := s.1; omega)
set_option maxHeartbeats 1000000 in
theorem tlen_1 (a b m kh kw sh sw tp lf bt rt : Int) (wa : Option Addr) (lw wc : Nat) (ba : Option Addr) (lb bc : Nat) (sm ss um us z p lo hi h w c H V C : Int) (r : Nat) (W : World) (hr : W.heap[r]? = some (.cells #[.int .i64 1, .int .i64 a, .int .i64 b, .int .i64 m, .int .i64 kh, .int .i64 kw, .int .i64 sh, .int .i64 sw, .int .i64 tp, .int .i64 lf, .int .i64 bt, .int .i64 rt, .slice wa lw wc, .slice ba lb bc, .int .i64 sm, .int .i64 ss, .int .i64 um, .int .i64 us, .int .i64 z, .int .i64 p, .int .i64 lo, .int .i64 hi, .int .i64 h, .int .i64 w, .int .i64 c, .int .i64 H, .int .i64 V, .int .i64 C] 66 (0, 0))) (g : vS h w c = true) (hw : (1 : Int) ≠ 1 → (1 ≤ kh ∧ kh ≤ 32) ∧ (1 ≤ kw ∧ kw ≤ 32)) :
    Calls Try.prog 45 #[.pointer (some ⟨r, 0, none⟩)] W fun e w' => e = .returned (.int .i64 (stR 1 kh kw h w c)) ∧ ∃ n, w' = W.drewN n := by
  have p3 : (1 ≤ h * w ∧ h * w ≤ 1048576) ∧ (1 ≤ h * w * c ∧ h * w * c ≤ 16384) := vS_bd g
  have c1 := (vS_yes g).2.2.1
  have hp : (1 : Int) ≠ 1 → (1 ≤ kh * kw ∧ kh * kw ≤ 1024) ∧ (1 ≤ kh * kw * c ∧ kh * kw * c ≤ 1048576) := fun q => by
    obtain ⟨hw1, hw2⟩ := hw q
    obtain ⟨p1, p2⟩ := mul_bd hw1.1 hw1.2 hw2.1 hw2.2
    obtain ⟨q1, q2⟩ := mul_bd p1 p2 c1.1 c1.2
    exact ⟨⟨p1, by omega⟩, q1, by omega⟩
  rw [show stR 1 kh kw h w c = (if (1 : Int) = 1 then h * w * c else if (1 : Int) = 2 then kh * kw * c else kh * kw) from rfl]
  simp at hp ⊢
  obtain ⟨p', ep⟩ : ∃ p', h * w = p' := ⟨_, rfl⟩
  obtain ⟨q', eq⟩ : ∃ q', kh * kw = q' := ⟨_, rfl⟩
  rw [ep] at p3
  try rw [eq] at hp
  try rw [ep]
  try rw [eq]
  obtain ⟨y1, y2, y3⟩ := cells_at hr
  clear g hw c1 hr
  go_enter Try.func45, Try.ntmps45
  go_wp2
  go_quiet (fail)
  go_wp2
  go_ret
  exact ⟨rfl, _, rfl⟩
set_option maxHeartbeats 1000000 in
theorem tlen_2 (a b m kh kw sh sw tp lf bt rt : Int) (wa : Option Addr) (lw wc : Nat) (ba : Option Addr) (lb bc : Nat) (sm ss um us z p lo hi h w c H V C : Int) (r : Nat) (W : World) (hr : W.heap[r]? = some (.cells #[.int .i64 2, .int .i64 a, .int .i64 b, .int .i64 m, .int .i64 kh, .int .i64 kw, .int .i64 sh, .int .i64 sw, .int .i64 tp, .int .i64 lf, .int .i64 bt, .int .i64 rt, .slice wa lw wc, .slice ba lb bc, .int .i64 sm, .int .i64 ss, .int .i64 um, .int .i64 us, .int .i64 z, .int .i64 p, .int .i64 lo, .int .i64 hi, .int .i64 h, .int .i64 w, .int .i64 c, .int .i64 H, .int .i64 V, .int .i64 C] 66 (0, 0))) (g : vS h w c = true) (hw : (2 : Int) ≠ 1 → (1 ≤ kh ∧ kh ≤ 32) ∧ (1 ≤ kw ∧ kw ≤ 32)) :
    Calls Try.prog 45 #[.pointer (some ⟨r, 0, none⟩)] W fun e w' => e = .returned (.int .i64 (stR 2 kh kw h w c)) ∧ ∃ n, w' = W.drewN n := by
  have p3 : (1 ≤ h * w ∧ h * w ≤ 1048576) ∧ (1 ≤ h * w * c ∧ h * w * c ≤ 16384) := vS_bd g
  have c1 := (vS_yes g).2.2.1
  have hp : (2 : Int) ≠ 1 → (1 ≤ kh * kw ∧ kh * kw ≤ 1024) ∧ (1 ≤ kh * kw * c ∧ kh * kw * c ≤ 1048576) := fun q => by
    obtain ⟨hw1, hw2⟩ := hw q
    obtain ⟨p1, p2⟩ := mul_bd hw1.1 hw1.2 hw2.1 hw2.2
    obtain ⟨q1, q2⟩ := mul_bd p1 p2 c1.1 c1.2
    exact ⟨⟨p1, by omega⟩, q1, by omega⟩
  rw [show stR 2 kh kw h w c = (if (2 : Int) = 1 then h * w * c else if (2 : Int) = 2 then kh * kw * c else kh * kw) from rfl]
  simp at hp ⊢
  obtain ⟨p', ep⟩ : ∃ p', h * w = p' := ⟨_, rfl⟩
  obtain ⟨q', eq⟩ : ∃ q', kh * kw = q' := ⟨_, rfl⟩
  rw [ep] at p3
  try rw [eq] at hp
  try rw [ep]
  try rw [eq]
  obtain ⟨y1, y2, y3⟩ := cells_at hr
  clear g hw c1 hr
  go_enter Try.func45, Try.ntmps45
  go_wp2
  go_quiet (fail)
  go_wp2
  go_ret
  exact ⟨rfl, _, rfl⟩
set_option maxHeartbeats 1000000 in
theorem tlen_3 (a b m kh kw sh sw tp lf bt rt : Int) (wa : Option Addr) (lw wc : Nat) (ba : Option Addr) (lb bc : Nat) (sm ss um us z p lo hi h w c H V C : Int) (r : Nat) (W : World) (hr : W.heap[r]? = some (.cells #[.int .i64 3, .int .i64 a, .int .i64 b, .int .i64 m, .int .i64 kh, .int .i64 kw, .int .i64 sh, .int .i64 sw, .int .i64 tp, .int .i64 lf, .int .i64 bt, .int .i64 rt, .slice wa lw wc, .slice ba lb bc, .int .i64 sm, .int .i64 ss, .int .i64 um, .int .i64 us, .int .i64 z, .int .i64 p, .int .i64 lo, .int .i64 hi, .int .i64 h, .int .i64 w, .int .i64 c, .int .i64 H, .int .i64 V, .int .i64 C] 66 (0, 0))) (g : vS h w c = true) (hw : (3 : Int) ≠ 1 → (1 ≤ kh ∧ kh ≤ 32) ∧ (1 ≤ kw ∧ kw ≤ 32)) :
    Calls Try.prog 45 #[.pointer (some ⟨r, 0, none⟩)] W fun e w' => e = .returned (.int .i64 (stR 3 kh kw h w c)) ∧ ∃ n, w' = W.drewN n := by
  have p3 : (1 ≤ h * w ∧ h * w ≤ 1048576) ∧ (1 ≤ h * w * c ∧ h * w * c ≤ 16384) := vS_bd g
  have c1 := (vS_yes g).2.2.1
  have hp : (3 : Int) ≠ 1 → (1 ≤ kh * kw ∧ kh * kw ≤ 1024) ∧ (1 ≤ kh * kw * c ∧ kh * kw * c ≤ 1048576) := fun q => by
    obtain ⟨hw1, hw2⟩ := hw q
    obtain ⟨p1, p2⟩ := mul_bd hw1.1 hw1.2 hw2.1 hw2.2
    obtain ⟨q1, q2⟩ := mul_bd p1 p2 c1.1 c1.2
    exact ⟨⟨p1, by omega⟩, q1, by omega⟩
  rw [show stR 3 kh kw h w c = (if (3 : Int) = 1 then h * w * c else if (3 : Int) = 2 then kh * kw * c else kh * kw) from rfl]
  simp at hp ⊢
  obtain ⟨p', ep⟩ : ∃ p', h * w = p' := ⟨_, rfl⟩
  obtain ⟨q', eq⟩ : ∃ q', kh * kw = q' := ⟨_, rfl⟩
  rw [ep] at p3
  try rw [eq] at hp
  try rw [ep]
  try rw [eq]
  obtain ⟨y1, y2, y3⟩ := cells_at hr
  clear g hw c1 hr
  go_enter Try.func45, Try.ntmps45
  go_wp2
  go_quiet (fail)
  go_wp2
  go_ret
  exact ⟨rfl, _, rfl⟩
set_option maxHeartbeats 1000000 in
theorem tlen_4 (a b m kh kw sh sw tp lf bt rt : Int) (wa : Option Addr) (lw wc : Nat) (ba : Option Addr) (lb bc : Nat) (sm ss um us z p lo hi h w c H V C : Int) (r : Nat) (W : World) (hr : W.heap[r]? = some (.cells #[.int .i64 4, .int .i64 a, .int .i64 b, .int .i64 m, .int .i64 kh, .int .i64 kw, .int .i64 sh, .int .i64 sw, .int .i64 tp, .int .i64 lf, .int .i64 bt, .int .i64 rt, .slice wa lw wc, .slice ba lb bc, .int .i64 sm, .int .i64 ss, .int .i64 um, .int .i64 us, .int .i64 z, .int .i64 p, .int .i64 lo, .int .i64 hi, .int .i64 h, .int .i64 w, .int .i64 c, .int .i64 H, .int .i64 V, .int .i64 C] 66 (0, 0))) (g : vS h w c = true) (hw : (4 : Int) ≠ 1 → (1 ≤ kh ∧ kh ≤ 32) ∧ (1 ≤ kw ∧ kw ≤ 32)) :
    Calls Try.prog 45 #[.pointer (some ⟨r, 0, none⟩)] W fun e w' => e = .returned (.int .i64 (stR 4 kh kw h w c)) ∧ ∃ n, w' = W.drewN n := by
  have p3 : (1 ≤ h * w ∧ h * w ≤ 1048576) ∧ (1 ≤ h * w * c ∧ h * w * c ≤ 16384) := vS_bd g
  have c1 := (vS_yes g).2.2.1
  have hp : (4 : Int) ≠ 1 → (1 ≤ kh * kw ∧ kh * kw ≤ 1024) ∧ (1 ≤ kh * kw * c ∧ kh * kw * c ≤ 1048576) := fun q => by
    obtain ⟨hw1, hw2⟩ := hw q
    obtain ⟨p1, p2⟩ := mul_bd hw1.1 hw1.2 hw2.1 hw2.2
    obtain ⟨q1, q2⟩ := mul_bd p1 p2 c1.1 c1.2
    exact ⟨⟨p1, by omega⟩, q1, by omega⟩
  rw [show stR 4 kh kw h w c = (if (4 : Int) = 1 then h * w * c else if (4 : Int) = 2 then kh * kw * c else kh * kw) from rfl]
  simp at hp ⊢
  obtain ⟨p', ep⟩ : ∃ p', h * w = p' := ⟨_, rfl⟩
  obtain ⟨q', eq⟩ : ∃ q', kh * kw = q' := ⟨_, rfl⟩
  rw [ep] at p3
  try rw [eq] at hp
  try rw [ep]
  try rw [eq]
  obtain ⟨y1, y2, y3⟩ := cells_at hr
  clear g hw c1 hr
  go_enter Try.func45, Try.ntmps45
  go_wp2
  go_quiet (fail)
  go_wp2
  go_ret
  exact ⟨rfl, _, rfl⟩
theorem tlen_any (k a b m kh kw sh sw tp lf bt rt : Int) (wa : Option Addr) (lw wc : Nat) (ba : Option Addr) (lb bc : Nat) (sm ss um us z p lo hi h w c H V C : Int) (r : Nat) (W : World) (hr : W.heap[r]? = some (.cells #[.int .i64 k, .int .i64 a, .int .i64 b, .int .i64 m, .int .i64 kh, .int .i64 kw, .int .i64 sh, .int .i64 sw, .int .i64 tp, .int .i64 lf, .int .i64 bt, .int .i64 rt, .slice wa lw wc, .slice ba lb bc, .int .i64 sm, .int .i64 ss, .int .i64 um, .int .i64 us, .int .i64 z, .int .i64 p, .int .i64 lo, .int .i64 hi, .int .i64 h, .int .i64 w, .int .i64 c, .int .i64 H, .int .i64 V, .int .i64 C] 66 (0, 0))) (s : Sit k kh kw sh sw tp lf bt rt h w c H V C lw lb) :
    Calls Try.prog 45 #[.pointer (some ⟨r, 0, none⟩)] W fun e w' => e = .returned (.int .i64 (stR k kh kw h w c)) ∧ ∃ n, w' = W.drewN n := by
  have hk := s.1
  have g := s.2.1
  have hw := s.win
  rcases (show k = 1 ∨ k = 2 ∨ k = 3 ∨ k = 4 by omega) with rfl | rfl | rfl | rfl
  · exact tlen_1 a b m kh kw sh sw tp lf bt rt wa lw wc ba lb bc sm ss um us z p lo hi h w c H V C r W hr g hw
  · exact tlen_2 a b m kh kw sh sw tp lf bt rt wa lw wc ba lb bc sm ss um us z p lo hi h w c H V C r W hr g hw
  · exact tlen_3 a b m kh kw sh sw tp lf bt rt wa lw wc ba lb bc sm ss um us z p lo hi h w c H V C r W hr g hw
  · exact tlen_4 a b m kh kw sh sw tp lf bt rt wa lw wc ba lb bc sm ss um us z p lo hi h w c H V C r W hr g hw
theorem tchan_any (k a b m kh kw sh sw tp lf bt rt : Int) (wa : Option Addr) (lw wc : Nat) (ba : Option Addr) (lb bc : Nat) (sm ss um us z p lo hi h w c H V C : Int) (r : Nat) (W : World) (hr : W.heap[r]? = some (.cells #[.int .i64 k, .int .i64 a, .int .i64 b, .int .i64 m, .int .i64 kh, .int .i64 kw, .int .i64 sh, .int .i64 sw, .int .i64 tp, .int .i64 lf, .int .i64 bt, .int .i64 rt, .slice wa lw wc, .slice ba lb bc, .int .i64 sm, .int .i64 ss, .int .i64 um, .int .i64 us, .int .i64 z, .int .i64 p, .int .i64 lo, .int .i64 hi, .int .i64 h, .int .i64 w, .int .i64 c, .int .i64 H, .int .i64 V, .int .i64 C] 66 (0, 0))) :
    Calls Try.prog 20 #[.pointer (some ⟨r, 0, none⟩)] W fun e w' => e = .returned (.int .i64 C) ∧ w' = W := by
  obtain ⟨y1, y2, y3⟩ := cells_at hr
  clear hr
  go_enter Try.func20, Try.ntmps20
  go_wp2
  go_ret
  exact ⟨rfl, rfl⟩
theorem tpos_any (k a b m kh kw sh sw tp lf bt rt : Int) (wa : Option Addr) (lw wc : Nat) (ba : Option Addr) (lb bc : Nat) (sm ss um us z p lo hi h w c H V C : Int) (r : Nat) (W : World) (hr : W.heap[r]? = some (.cells #[.int .i64 k, .int .i64 a, .int .i64 b, .int .i64 m, .int .i64 kh, .int .i64 kw, .int .i64 sh, .int .i64 sw, .int .i64 tp, .int .i64 lf, .int .i64 bt, .int .i64 rt, .slice wa lw wc, .slice ba lb bc, .int .i64 sm, .int .i64 ss, .int .i64 um, .int .i64 us, .int .i64 z, .int .i64 p, .int .i64 lo, .int .i64 hi, .int .i64 h, .int .i64 w, .int .i64 c, .int .i64 H, .int .i64 V, .int .i64 C] 66 (0, 0))) (g : vS H V C = true) :
    Calls Try.prog 21 #[.pointer (some ⟨r, 0, none⟩)] W fun e w' => e = .returned (.int .i64 (H * V)) ∧ ∃ n, w' = W.drewN n := by
  obtain ⟨y1, y2, y3⟩ := cells_at hr
  have p3 := vS_bd g
  clear hr g
  go_enter Try.func21, Try.ntmps21
  go_wp2
  go_quiet (fail)
  go_wp2
  go_ret
  exact ⟨rfl, _, rfl⟩
set_option maxHeartbeats 1000000 in
theorem tbias_any (k a b m kh kw sh sw tp lf bt rt : Int) (wa : Option Addr) (lw wc : Nat) (ba : Option Addr) (lb bc : Nat) (sm ss um us z p lo hi h w c H V C : Int) (r : Nat) (W : World) (hr : W.heap[r]? = some (.cells #[.int .i64 k, .int .i64 a, .int .i64 b, .int .i64 m, .int .i64 kh, .int .i64 kw, .int .i64 sh, .int .i64 sw, .int .i64 tp, .int .i64 lf, .int .i64 bt, .int .i64 rt, .slice wa lw wc, .slice ba lb bc, .int .i64 sm, .int .i64 ss, .int .i64 um, .int .i64 us, .int .i64 z, .int .i64 p, .int .i64 lo, .int .i64 hi, .int .i64 h, .int .i64 w, .int .i64 c, .int .i64 H, .int .i64 V, .int .i64 C] 66 (0, 0))) (bs : List Int) (hB : IRow .i32 W ba lb bc bs) (s : Sit k kh kw sh sw tp lf bt rt h w c H V C lw lb) (ch : Int) (hc : 1 ≤ ch ∧ ch ≤ C) :
    Calls Try.prog 23 #[.pointer (some ⟨r, 0, none⟩), .int .i64 ch] W fun e w' => e = .returned (.int .i64 (biA k ch bs)) ∧ w' = W := by
  obtain ⟨y1, y2, y3⟩ := cells_at hr
  obtain ⟨hk, -, hv, -, -, -, hl, -⟩ := s
  have hC := (vS_yes hv).2.2.1
  clear hr
  by_cases k4 : k = 4
  · subst k4
    rw [show biA 4 ch bs = 0 from if_pos rfl]
    go_enter Try.func23, Try.ntmps23
    go_wp2
    go_ret
    exact ⟨rfl, rfl⟩
  · rw [show biA k ch bs = bs.getD (ch - 1).toNat 0 from if_neg k4]
    have hl2 := (hl (by omega)).2
    obtain ⟨n, rfl⟩ : ∃ n : Nat, ch = (n : Int) + 1 := ⟨(ch - 1).toNat, by omega⟩
    have hm := hB.2.2.1
    have hcc := hB.2.1
    unfold maxLen at hm
    obtain ⟨x, u, rfl, hu, hwf, hz, -⟩ := hB.at (show n < lb by omega)
    obtain ⟨u1, u2⟩ := wf_i32 hwf
    have e : bs.getD ((n : Int) + 1 - 1).toNat 0 = u := by rw [show ((n : Int) + 1 - 1).toNat = n by omega, List.getD_eq_getElem?_getD, hz]; rfl
    rw [e]
    have k4' : (k == 4) = false := by simp [k4]
    clear e hz hwf hB hl
    go_enter Try.func23, Try.ntmps23
    go_wp2
    go_ret
    exact ⟨rfl, rfl⟩
set_option maxHeartbeats 1000000 in
theorem twei_any (k a b m kh kw sh sw tp lf bt rt : Int) (wa : Option Addr) (lw wc : Nat) (ba : Option Addr) (lb bc : Nat) (sm ss um us z p lo hi h w c H V C : Int) (r : Nat) (W : World) (hr : W.heap[r]? = some (.cells #[.int .i64 k, .int .i64 a, .int .i64 b, .int .i64 m, .int .i64 kh, .int .i64 kw, .int .i64 sh, .int .i64 sw, .int .i64 tp, .int .i64 lf, .int .i64 bt, .int .i64 rt, .slice wa lw wc, .slice ba lb bc, .int .i64 sm, .int .i64 ss, .int .i64 um, .int .i64 us, .int .i64 z, .int .i64 p, .int .i64 lo, .int .i64 hi, .int .i64 h, .int .i64 w, .int .i64 c, .int .i64 H, .int .i64 V, .int .i64 C] 66 (0, 0))) (zs : List Int) (hZ : IRow .i16 W wa lw wc zs) (s : Sit k kh kw sh sw tp lf bt rt h w c H V C lw lb) (ch : Int) (hc : 1 ≤ ch ∧ ch ≤ C) (i : Nat) (hi0 : (i : Int) < stR k kh kw h w c) :
    Calls Try.prog 46 #[.pointer (some ⟨r, 0, none⟩), .int .i64 ch, .int .i64 i] W fun e w' => e = .returned (.int .i64 (wgA k ch (stR k kh kw h w c) zs i)) ∧ ∃ n, w' = W.drewN n := by
  have hL : Hid (∀ n, Calls Try.prog 45 #[.pointer (some ⟨r, 0, none⟩)] (W.drewN n) fun e w' => e = .returned (.int .i64 (stR k kh kw h w c)) ∧ ∃ m, w' = (W.drewN n).drewN m) := fun n => tlen_any k a b m kh kw sh sw tp lf bt rt wa lw wc ba lb bc sm ss um us z p lo hi h w c H V C r (W.drewN n) hr s
  obtain ⟨y1, y2, y3⟩ := cells_at hr
  obtain ⟨hk, -, hv, -, -, -, hl, -, hst0, hst1⟩ := s
  have hC := (vS_yes hv).2.2.1
  obtain ⟨st, hst⟩ : ∃ st, stR k kh kw h w c = st := ⟨_, rfl⟩
  rw [hst] at hL hl hst0 hst1 hi0 ⊢
  clear hr hst hv
  by_cases k4 : k = 4
  · subst k4
    rw [show wgA 4 ch st zs i = 1 from if_pos rfl]
    go_enter Try.func46, Try.ntmps46
    go_wp2
    go_ret
    exact ⟨rfl, 0, rfl⟩
  · rw [show wgA k ch st zs i = zs.getD ((ch - 1) * st + i).toNat 0 from if_neg k4]
    have hl2 := (hl (by omega)).1
    obtain ⟨d, rfl⟩ : ∃ d : Nat, ch = (d : Int) + 1 := ⟨(ch - 1).toNat, by omega⟩
    have hm := hZ.2.2.1
    have hcc := hZ.2.1
    unfold maxLen at hm
    have p1 : 0 ≤ (d : Int) * st := Int.mul_nonneg (by omega) (by omega)
    have p2 : (d : Int) * st + st ≤ C * st := by
      have := Int.mul_le_mul_of_nonneg_right (show (d : Int) + 1 ≤ C by omega) (show 0 ≤ st by omega)
      rwa [Int.add_mul, Int.one_mul] at this
    obtain ⟨p', ep⟩ : ∃ p', (d : Int) * st = p' := ⟨_, rfl⟩
    rw [show (d : Int) + 1 - 1 = d by omega, ep]
    rw [ep] at p1 p2
    rw [← hl2] at p2
    obtain ⟨N, eN⟩ : ∃ N : Nat, p' + (i : Int) = (N : Int) := ⟨(p' + i).toNat, by omega⟩
    rw [eN]
    have hN : N < lw := by omega
    obtain ⟨x, u, rfl, hu, hwf, hz, -⟩ := hZ.at hN
    obtain ⟨u1, u2⟩ := wf_i16 hwf
    have e : zs.getD ((N : Int)).toNat 0 = u := by rw [Int.toNat_natCast, List.getD_eq_getElem?_getD, hz]; rfl
    rw [e]
    have k4' : (k == 4) = false := by simp [k4]
    have hd1 : (d : Int) + 1 ≤ 1024 := by omega
    have hi2 : (i : Int) ≤ 512 := by omega
    clear e hz hwf hZ hl hl2 hC hc
    go_enter Try.func46, Try.ntmps46
    go_wp2
    go_quiet ((go_at_call 45; exact Calls.quiet_of (hL.out _)))
    go_wp2
    go_ret
    exact ⟨rfl, _, rfl⟩
/-- The channels that are read: the first, and the one behind the last. -/
def chF (k ch : Int) : Int := if k = 2 then 0 else ch - 1
def chB (k c ch : Int) : Int := if k = 2 then c else ch
theorem tread_any (k a b m kh kw sh sw tp lf bt rt : Int) (wa : Option Addr) (lw wc : Nat) (ba : Option Addr) (lb bc : Nat) (sm ss um us z p lo hi h w c H V C : Int) (r : Nat) (W : World) (hr : W.heap[r]? = some (.cells #[.int .i64 k, .int .i64 a, .int .i64 b, .int .i64 m, .int .i64 kh, .int .i64 kw, .int .i64 sh, .int .i64 sw, .int .i64 tp, .int .i64 lf, .int .i64 bt, .int .i64 rt, .slice wa lw wc, .slice ba lb bc, .int .i64 sm, .int .i64 ss, .int .i64 um, .int .i64 us, .int .i64 z, .int .i64 p, .int .i64 lo, .int .i64 hi, .int .i64 h, .int .i64 w, .int .i64 c, .int .i64 H, .int .i64 V, .int .i64 C] 66 (0, 0))) (ch : Int) (hc : 1 ≤ ch ∧ ch ≤ 1024) :
    Calls Try.prog 47 #[.pointer (some ⟨r, 0, none⟩), .int .i64 ch] W fun e w' => e = .returned (.tuple #[.int .i64 (chF k ch), .int .i64 (chB k c ch)]) ∧ ∃ n, w' = W.drewN n := by
  obtain ⟨y1, y2, y3⟩ := cells_at hr
  clear hr
  by_cases k2 : k = 2
  · subst k2
    rw [show chF 2 ch = 0 from if_pos rfl, show chB 2 c ch = c from if_pos rfl]
    go_enter Try.func47, Try.ntmps47
    go_wp2
    go_quiet (fail)
    go_wp2
    go_ret2
    exact ⟨rfl, _, rfl⟩
  · rw [show chF k ch = ch - 1 from if_neg k2, show chB k c ch = ch from if_neg k2]
    have k2' : (k == 2) = false := by simp [k2]
    go_enter Try.func47, Try.ntmps47
    go_wp2
    go_ret2
    exact ⟨rfl, 0, rfl⟩
theorem tplace_any (k a b m kh kw sh sw tp lf bt rt : Int) (wa : Option Addr) (lw wc : Nat) (ba : Option Addr) (lb bc : Nat) (sm ss um us z p lo hi h w c H V C : Int) (r : Nat) (W : World) (hr : W.heap[r]? = some (.cells #[.int .i64 k, .int .i64 a, .int .i64 b, .int .i64 m, .int .i64 kh, .int .i64 kw, .int .i64 sh, .int .i64 sw, .int .i64 tp, .int .i64 lf, .int .i64 bt, .int .i64 rt, .slice wa lw wc, .slice ba lb bc, .int .i64 sm, .int .i64 ss, .int .i64 um, .int .i64 us, .int .i64 z, .int .i64 p, .int .i64 lo, .int .i64 hi, .int .i64 h, .int .i64 w, .int .i64 c, .int .i64 H, .int .i64 V, .int .i64 C] 66 (0, 0))) (q d : Int) (hq : -1 ≤ q ∧ q ≤ 16384) (hd : 0 ≤ d ∧ d ≤ 1024) (hc : 1 ≤ c ∧ c ≤ 1024) :
    Calls Try.prog 49 #[.pointer (some ⟨r, 0, none⟩), .int .i64 q, .int .i64 d] W fun e w' => e = .returned (.int .i64 (cov c q d)) ∧ w' = W := by
  obtain ⟨y1, y2, y3⟩ := cells_at hr
  clear hr
  by_cases q1 : q = -1
  · subst q1
    rw [show cov c (-1) d = -1 from if_pos rfl]
    go_enter Try.func49, Try.ntmps49
    go_wp2
    go_ret
    exact ⟨rfl, rfl⟩
  · rw [show cov c q d = q * c + d from if_neg q1]
    have q1' : (q == -1) = false := by simp [q1]
    have p1 : 0 ≤ q * c := Int.mul_nonneg (by omega) (by omega)
    have p2 : q * c ≤ 16384 * 1024 := Int.mul_le_mul hq.2 hc.2 (by omega) (by omega)
    obtain ⟨p', ep⟩ : ∃ p', q * c = p' := ⟨_, rfl⟩
    rw [ep] at p1 p2 ⊢
    go_enter Try.func49, Try.ntmps49
    go_wp2
    go_ret
    exact ⟨rfl, rfl⟩
end Go.Proofs.Ytbogpgaifbjahaa

/- The iterator of Taps: called with whatever round, it gives each tap in its order, till it is told to stop. -/
namespace Go.Proofs.Ytbogpgaifbjahaa
open Go.ChangeShapes Go.WideShapes Go.ChangeAt Go.RowKit Go.Shelf
attribute [local go_sem] Oper.semAt_some
/-- What a round keeps: the listed blocks. -/
def Kept (l : List Nat) (W W' : World) : Prop := ∀ b ∈ l, ∀ c t, W.heap[b]? = some (.cells c t (0, 0)) → W'.heap[b]? = some (.cells c t (0, 0))
theorem Kept.refl (l : List Nat) (W : World) : Kept l W W := fun _ _ _ _ h => h
theorem Kept.trans {l : List Nat} {A B C : World} (h : Kept l A B) (k : Kept l B C) : Kept l A C := fun b hb c t hc => k b hb c t (h b hb c t hc)
theorem Kept.put {l : List Nat} (W : World) (i : Nat) (o o' : Obj) (h : W.heap[i]? = some o) (ho : o.isCells = false) : Kept l W (W.putObj i o') := fun b _ _ _ hc => by
  by_cases e : b = i
  · subst e; rw [h] at hc; cases hc; cases ho
  · rw [World.putObj_heap_other e]; exact hc
theorem Kept.below {l : List Nat} {W W' : World} (h : Below W.heap.size W W') : Kept l W W' := fun b _ _ _ hc => (h.block b (lt_of_heap hc)).trans hc
theorem Kept.grown {l : List Nat} {W W' : World} {g : Option Nat} (h : W.grownBy W' g) (hg : ∀ b, g = some b → b ∉ l) : Kept l W W' := fun b hb _ _ hc => (h.block b (lt_of_heap hc) (fun e => hg b e.symm hb)).trans hc
/-- A world in which all that lay in W lies as it lay. -/
def Wn (W : World) : Type := Subtype fun w : World => Below W.heap.size W w
def Wn.w {W : World} (n : Wn W) : World := n.1
theorem Wn.h {W : World} (n : Wn W) : Below W.heap.size W n.w := n.2
def Wn.mk {W : World} (w : World) (h : Below W.heap.size W w) : Wn W := Subtype.mk w h
theorem Wn.rule {W : World} {B : Nat} {c : Array Value} {t : TypeId} (h : W.heap[B]? = some (.cells c t (0, 0))) : ∀ (n : Wn W) (i : Nat), n.w.cell? ⟨B, i, none⟩ = c[i]? := fun n i => by
  have h0 : n.w.heap[B]? = some (.cells c t (0, 0)) := (n.h.block B (lt_of_heap h)).trans h
  simp [World.cell?, h0]
theorem wn_call {f : FuncId} {args : Array Value} {W : World} {n : Wn W} {m : Nat} {v : Value}
    (h : Calls Try.prog f args n.w fun e w' => e = .returned v ∧ Below n.w.heap.size n.w w') : CallsIn Fence.wide m Try.prog f args n.w fun e w'' => e = .returned v ∧ ∃ k : Wn W, w'' = k.w :=
  callsIn_wide.2 (h.mono fun _ _ ⟨he, hb⟩ => ⟨he, Wn.mk _ (n.h.trans (hb.mono n.h.size)), rfl⟩)
theorem grownBy_of_below {W W' : World} (k : Below W.heap.size W W') : W.grownBy W' none := ⟨k.os, k.tape, k.output, k.size, fun i hi _ => k.block i hi⟩
theorem abides_below {β : Type} {B : Nat} {J : β → World → Prop} (hJ : AbidesFrom B J) {s : β} {W W' : World} (h : J s W) (k : Below W.heap.size W W') : J s W' :=
  hJ s W W' none h (grownBy_of_below k) (fun r e => by cases e)
set_option maxRecDepth 100000 in
set_option maxHeartbeats 4000000 in
theorem taps1_in (m : Nat) (l B1 B2 B3 B4 B5 : Nat) (h w c kh kw sh sw tp lf bt rt t u : Int) (N : Nat) (J Jx : List (Int × Int) → World → Prop) (W : World)
    (hC : N = 0 ∨ Cor h w kh kw t u ∧ N = (kh * kw).toNat)
    (hJ : AbidesFrom W.heap.size J)
    (hY : ∀ pre x W1, J pre W1 → pre.length < N → YieldAt Fence.wide (m - 1) Try.prog l #[.int .i64 x.1, .int .i64 x.2] W1 fun e W' =>
      (e = .returned (.bool true) ∧ J (pre ++ [x]) W' ∧ Kept [B2, B3, B4, B5] W1 W') ∨ (e = .returned (.bool false) ∧ Jx (pre ++ [x]) W'))
    (c1 : W.heap[B1]? = some (.cells #[.int .i64 N] 3 (0, 0))) (c2 : W.heap[B2]? = some (.cells #[.int .i64 h, .int .i64 w, .int .i64 c] 23 (0, 0))) (c3 : W.heap[B3]? = some (.cells #[.int .i64 t] 3 (0, 0)))
    (c4 : W.heap[B4]? = some (.cells #[.int .i64 kh, .int .i64 kw, .int .i64 sh, .int .i64 sw, .int .i64 tp, .int .i64 lf, .int .i64 bt, .int .i64 rt] 41 (0, 0))) (c5 : W.heap[B5]? = some (.cells #[.int .i64 u] 3 (0, 0))) (h0 : J [] W) :
    CallsIn Fence.wide m Try.prog 65 #[.func (.yield l) #[] #[], .pointer (some ⟨B1, 0, none⟩), .pointer (some ⟨B2, 0, none⟩), .pointer (some ⟨B3, 0, none⟩), .pointer (some ⟨B4, 0, none⟩), .pointer (some ⟨B5, 0, none⟩)] W fun e W' => (∃ v, e = .returned v) ∧
      ((∃ ys, ys = tapL h w kw t u N ∧ J ys W') ∨ (∃ pre, (∃ k, k ≤ N ∧ pre = tapL h w kw t u k) ∧ Jx pre W')) := by
  have r1 : W.cell? ⟨B1, 0, none⟩ = some (.int .i64 N) := by simp [World.cell?, c1]
  refine callsIn_of_wp Try.func65 rfl trivial ?_ rfl
  simp only [Try.ntmps65, List.size_toArray, List.length_cons, List.length_nil, Nat.reduceAdd, Nat.reduceSub, Array.replicate_succ, Array.replicate_zero, List.push_toArray, List.append_toArray, List.nil_append, List.cons_append]
  gi_wp2
  gi_loopw [9] (fun i wr => ∃ k : Nat, k ≤ N ∧ i = .int .i64 k ∧ J (tapL h w kw t u k) wr ∧ Kept [B2, B3, B4, B5] W wr)
    (fun i _ => N - (intOf i).toNat)
  case atStart => exact ⟨0, Nat.zero_le _, rfl, h0, Kept.refl _ _⟩
  case round =>
    obtain ⟨k, hk, rfl, hJs, hkp⟩ := hrel
    by_cases hlt : k < N
    · rcases hC with rfl | ⟨⟨h1, w1, q9, k1, k2, t1, u1⟩, hN⟩
      · omega
      have d2 := hkp B2 (by simp) _ _ c2
      have d3 := hkp B3 (by simp) _ _ c3
      have d4 := hkp B4 (by simp) _ _ c4
      have d5 := hkp B5 (by simp) _ _ c5
      have e2 := Wn.rule d2
      have e3 := Wn.rule d3
      have e4 := Wn.rule d4
      have e5 := Wn.rule d5
      have p1 := Int.ediv_nonneg (show (0 : Int) ≤ k by omega) (show 0 ≤ kw by omega)
      have p3 := Int.mul_nonneg (show 0 ≤ kh by omega) (show 0 ≤ kw by omega)
      have p2 : (k : Int) / kw < kh := Int.ediv_lt_of_lt_mul (by omega) (by omega)
      have p4 := Int.emod_nonneg (k : Int) (show kw ≠ 0 by omega)
      have p5 := Int.emod_lt_of_pos (k : Int) (show 0 < kw by omega)
      have t6 := td (c := kw) (show (0 : Int) ≤ k by omega)
      have t7 := tm (c := kw) (show (0 : Int) ≤ k by omega)
      obtain ⟨d, hd⟩ : ∃ d, (k : Int) / kw = d := ⟨_, rfl⟩
      obtain ⟨e, he⟩ : ∃ e, (k : Int) % kw = e := ⟨_, rfl⟩
      have HT : Hid (tap h w kw t u k = ((k : Int), plc h w (t + d) (u + e))) := by unfold Hid tap; rw [hd, he]
      rw [hd] at p1 p2 t6
      rw [he] at p4 p5 t7
      have kw0 : ¬ kw = 0 := by omega
      have kN : N ≤ 1024 := by
        have := Int.mul_le_mul k1.2 k2.2 (by omega) (by omega)
        omega
      have HN : Hid (N = (kh * kw).toNat) := hN
      clear hd he hN p3
      have hfn : ∀ f, Fence.wide.fn f := fun _ => trivial
      have hdp : Fence.wide.depth = none := rfl
      have hne : Nonempty (Wn wr) := ⟨Wn.mk wr (Below.refl _ _)⟩
      gi_wp2
      refine region_tail_at 16 (C := fun w' => ∃ n : Wn wr, w' = n.w) rfl rfl (by kernel_rfl) (by kernel_rfl) ⟨Wn.mk _ (Below.refl _ _).drew, rfl⟩ ?_
      simp only [List.take_succ_cons, List.take_zero, List.drop_succ_cons, List.drop_zero]
      repeat (gi_big_quiet_step (exact wn_call (place_any _ _ _ _ _ _ (by omega) (by omega) h1 w1)))
      refine wpQuietIn_nil ?_
      rintro _ ⟨n, rfl⟩
      obtain ⟨fn, tmps, assign, body, hy, hR⟩ := hY (tapL h w kw t u k) (tap h w kw t u k) n.w (abides_below hJ hJs n.h) (by rw [tapL_len]; exact hlt)
      rw [← tapL_succ] at hR
      rw [HT.out] at hy
      dsimp only at hy
      gi_wp2
      refine hR.mono ?_
      rintro e W3 (⟨rfl, hJ3, hk3⟩ | ⟨rfl, hJx3⟩)
      · gi_wp2
        go_roundw
        case rel => exact ⟨k + 1, by omega, by simp, hJ3, (hkp.trans (Kept.below n.h)).trans hk3⟩
        case measure => simp [intOf]; omega
      · gi_wp2
        refine bodyPost_ret (results_none rfl _ _ _) rfl ?_
        exact ⟨⟨_, rfl⟩, .inr ⟨_, ⟨k + 1, by omega, rfl⟩, hJx3⟩⟩
    · obtain rfl : k = N := by omega
      gi_wp2
      go_end0
      exact ⟨⟨_, rfl⟩, .inl ⟨_, rfl, hJs⟩⟩
end Go.Proofs.Ytbogpgaifbjahaa

/- The iterator of Positions: called with whatever round, it gives each position's row and column in their order, till it is told to stop. -/
namespace Go.Proofs.Ytbogpgaifbjahaa
open Go.ChangeShapes Go.WideShapes Go.ChangeAt Go.RowKit Go.Shelf
attribute [local go_sem] Oper.semAt_some
theorem spot_at {q y x : Nat} (hx : x < q) : (((y * q + x : Nat) : Int) / (q : Int), ((y * q + x : Nat) : Int) % (q : Int)) = ((y : Int), (x : Int)) := by
  have e1 : ((y * q + x : Nat) : Int) / (q : Int) = y := by
    rw [← Int.natCast_ediv]
    congr 1
    rw [Nat.mul_comm, Nat.mul_add_div (by omega), Nat.div_eq_of_lt hx, Nat.add_zero]
  have e2 : ((y * q + x : Nat) : Int) % (q : Int) = x := by
    rw [← Int.natCast_emod]
    congr 1
    rw [Nat.mul_comm, Nat.mul_add_mod, Nat.mod_eq_of_lt hx]
  rw [e1, e2]
end Go.Proofs.Ytbogpgaifbjahaa
