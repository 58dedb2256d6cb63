/- Models in plain numbers: the shapes, the work, the fault; ops in memory. goThrough of package model: what it answers. What formOfList of package cert returns. Check, Shapes and Work of package model: what each answers. Fronts of models in plain numbers; what is known of each op of a well-formed model; ops that came in. same and front of law08: what each returns. -/
import Derived.Test.YtcjnhchjikcigaaGr01
import Derived.Test.YtcjnhchjikcigaaGr04
import Derived.Test.YtcjnhchjikcigaaGr13
import Derived.Deep.WholeRow
import Derived.BigQuiet
/- Models in plain numbers: the shapes, the work, the fault; ops in memory. -/
namespace Go.Proofs.Ytcjnhchjikcigaa
open Go.ChangeShapes Go.WideShapes Go.ChangeAt Go.RowKit
set_option linter.unusedVariables false
def oT (o : Nat → Int) (L : List (Int × Int × Int)) (wk : Int) : Int := tkE (o 0) (o 1) (o 2) (o 3) (o 4) (o 5) (o 6) (o 7) (o 8) (o 9) (o 10) (o 11) (o 12).toNat (o 13).toNat (o 14) (o 15) (o 16) (o 17) (o 18) (o 19) (o 20) (o 21) L wk
def oM (o : Nat → Int) (L : List (Int × Int × Int)) : Int × Int × Int := mk3 (o 0) (o 3) (o 4) (o 5) (o 6) (o 7) (o 8) (o 9) (o 10) (o 11) (ShA L (o 1))
def oW (o : Nat → Int) (L : List (Int × Int × Int)) : Int := opW (o 0) (o 3) (o 4) (o 5) (o 6) (o 7) (o 8) (o 9) (o 10) (o 11) (ShA L (o 1))
/-- An op's cells. -/
def opl (o : Nat → Int) (wa : Option Addr) (lw cw : Nat) (ba : Option Addr) (lb cb : Nat) : List Value := [.int .i64 (o 0), .int .i64 (o 1), .int .i64 (o 2), .int .i64 (o 3), .int .i64 (o 4), .int .i64 (o 5), .int .i64 (o 6), .int .i64 (o 7), .int .i64 (o 8), .int .i64 (o 9), .int .i64 (o 10), .int .i64 (o 11), .slice wa lw cw, .slice ba lb cb, .int .i64 (o 14), .int .i64 (o 15), .int .i64 (o 16), .int .i64 (o 17), .int .i64 (o 18), .int .i64 (o 19), .int .i64 (o 20), .int .i64 (o 21)]
/-- Ops in memory. -/
def MRow (w : World) (oa : Option Addr) (on oc : Nat) (O : Nat → Nat → Int) : Prop :=
  on ≤ oc ∧ oc ≤ maxLen ∧ (oa = none → oc = 0) ∧ ∀ x, oa = some x → ∀ i, i < on → ∃ (wa : Option Addr) (lw cw : Nat) (ba : Option Addr) (lb cb : Nat), O i 12 = (lw : Int) ∧ O i 13 = (lb : Int) ∧ ∀ j v, (opl (O i) wa lw cw ba lb cb)[j]? = some v → w.cell? (x.add (i * 22 + j)) = some v
theorem MRow.below {w w' : World} {oa : Option Addr} {on oc : Nat} {O : Nat → Nat → Int} (h : MRow w oa on oc O) (g : Below w.heap.size w w') : MRow w' oa on oc O :=
  ⟨h.1, h.2.1, h.2.2.1, fun x hx i hi => by
    obtain ⟨wa, lw, cw, ba, lb, cb, h1, h2, h3⟩ := h.2.2.2 x hx i hi
    exact ⟨wa, lw, cw, ba, lb, cb, h1, h2, fun j v hj => (g.cell (World.block_lt_of_cell? w _ (h3 j v hj))).trans (h3 j v hj)⟩⟩
theorem MRow.at {w : World} {oa : Option Addr} {on oc : Nat} {O : Nat → Nat → Int} (h : MRow w oa on oc O) {i : Nat} (hi : i < on) :
    ∃ (x : Addr) (wa : Option Addr) (lw cw : Nat) (ba : Option Addr) (lb cb : Nat), oa = some x ∧ O i 12 = (lw : Int) ∧ O i 13 = (lb : Int) ∧ ∀ j v, (opl (O i) wa lw cw ba lb cb)[j]? = some v → w.cell? ((x.add (i * 22)).add j) = some v := by
  cases oa with
  | none => have := h.2.2.1 rfl; have := h.1; omega
  | some x =>
    obtain ⟨wa, lw, cw, ba, lb, cb, h1, h2, h3⟩ := h.2.2.2 x rfl i hi
    exact ⟨x, wa, lw, cw, ba, lb, cb, rfl, h1, h2, fun j v hj => by rw [Addr.add_add]; exact h3 j v hj⟩
/-- Behind so many ops: the error and its op, the shapes, the work. -/
def stG (O : Nat → Nat → Int) (s0 : Int × Int × Int) : Nat → Int × Int × List (Int × Int × Int) × Int
  | 0 => (0, 0, [s0], 0)
  | i + 1 => if (stG O s0 i).1 ≠ 0 then stG O s0 i else if oT (O i) (stG O s0 i).2.2.1 (stG O s0 i).2.2.2 ≠ 0 then (oT (O i) (stG O s0 i).2.2.1 (stG O s0 i).2.2.2, (i : Int) + 1, [], 0)
    else (0, 0, (stG O s0 i).2.2.1 ++ [oM (O i) (stG O s0 i).2.2.1], (stG O s0 i).2.2.2 + oW (O i) (stG O s0 i).2.2.1)
theorem stG_succ (O : Nat → Nat → Int) (s0 : Int × Int × Int) (i : Nat) : stG O s0 (i + 1) = if (stG O s0 i).1 ≠ 0 then stG O s0 i else if oT (O i) (stG O s0 i).2.2.1 (stG O s0 i).2.2.2 ≠ 0 then (oT (O i) (stG O s0 i).2.2.1 (stG O s0 i).2.2.2, (i : Int) + 1, [], 0)
    else (0, 0, (stG O s0 i).2.2.1 ++ [oM (O i) (stG O s0 i).2.2.1], (stG O s0 i).2.2.2 + oW (O i) (stG O s0 i).2.2.1) := rfl
theorem stG_bad {O : Nat → Nat → Int} {s0 : Int × Int × Int} {i : Nat} (h : (stG O s0 i).1 ≠ 0) : ∀ d, stG O s0 (i + d) = stG O s0 i
  | 0 => rfl
  | d + 1 => by
    have e := stG_bad h d
    show stG O s0 (i + d + 1) = _
    rw [stG_succ, e, if_pos h]
theorem stG_err {O : Nat → Nat → Int} {s0 : Int × Int × Int} {i : Nat} {L : List (Int × Int × Int)} {wk x : Int} (h : stG O s0 i = (0, 0, L, wk)) (hx : oT (O i) L wk = x) (h0 : x ≠ 0) : stG O s0 (i + 1) = (x, (i : Int) + 1, [], 0) := by
  rw [stG_succ, h]
  simp only
  rw [if_neg (by decide), hx, if_pos h0]
theorem stG_ok {O : Nat → Nat → Int} {s0 : Int × Int × Int} {i : Nat} {L : List (Int × Int × Int)} {wk : Int} (h : stG O s0 i = (0, 0, L, wk)) (hx : oT (O i) L wk = 0) : stG O s0 (i + 1) = (0, 0, L ++ [oM (O i) L], wk + oW (O i) L) := by
  rw [stG_succ, h]
  simp only
  rw [if_neg (by decide), hx, if_neg (by decide)]
/-- What is known of an op that is taken. -/
theorem tk_0 {k a b m kh kw sh sw tp lf bt rt : Int} {lw lb : Nat} {sm ss um us z p lo hi : Int} {L : List (Int × Int × Int)} {wk : Int} (h : tkE k a b m kh kw sh sw tp lf bt rt lw lb sm ss um us z p lo hi L wk = 0) (hv : ∀ s ∈ L, vS3 s = true) : vS3 (mk3 k m kh kw sh sw tp lf bt rt (ShA L a)) = true ∧ 0 ≤ opW k m kh kw sh sw tp lf bt rt (ShA L a) ∧ wk + opW k m kh kw sh sw tp lf bt rt (ShA L a) ≤ 131072 ∧ (0 ≤ a ∧ a < (L.length : Int)) ∧ (1 ≤ k ∧ k ≤ 8) ∧ mkE k m kh kw sh sw tp lf bt rt (ShA L a).1 (ShA L a).2.1 (ShA L a).2.2 = 0 := by
  have h1 : opE k a b m kh kw sh sw tp lf bt rt lw lb sm ss um us z p lo hi L = 0 := by
    unfold tkE at h
    by_cases q : opE k a b m kh kw sh sw tp lf bt rt lw lb sm ss um us z p lo hi L ≠ 0
    · rw [if_pos q] at h; exact h
    · exact Decidable.not_not.1 q
  have h2 : ¬ 131072 < wk + opW k m kh kw sh sw tp lf bt rt (ShA L a) := by
    unfold tkE at h
    rw [if_neg (by rw [h1]; decide)] at h
    intro q
    rw [if_pos q] at h
    cases h
  unfold opE at h1
  by_cases q1 : fmE k a b L.length (ozB k b m kh kw sh sw tp lf bt rt lw lb sm ss um us z p) ≠ 0
  · rw [if_pos q1] at h1; exact absurd h1 q1
  · rw [if_neg q1] at h1
    obtain ⟨hk, ⟨ha0, han⟩, -, -⟩ := fmE_0 (Decidable.not_not.1 q1)
    by_cases q2 : mkE k m kh kw sh sw tp lf bt rt (ShA L a).1 (ShA L a).2.1 (ShA L a).2.2 ≠ 0
    · rw [if_pos q2] at h1; exact absurd h1 q2
    · have hx := Decidable.not_not.1 q2
      obtain ⟨i, rfl⟩ := Int.eq_ofNat_of_zero_le ha0
      have hg := hv _ (ShA_mem (show i < L.length by omega))
      obtain ⟨H, V, C, hO⟩ : ∃ H V C, mkO k m kh kw sh sw tp lf bt rt (ShA L i).1 (ShA L i).2.1 (ShA L i).2.2 = (H, V, C) := ⟨_, _, _, rfl⟩
      obtain ⟨hm, how⟩ := mk_3 (s := ShA L i) (st := st3 k kh kw (ShA L i)) rfl hx hO rfl
      obtain ⟨b1, b2, b3, b4⟩ := mkO_bd hx hO
      have hst := stR_bd hk hg (mkE_win hx)
      refine ⟨?_, ?_, by omega, ⟨by omega, han⟩, hk, hx⟩
      · have : vS3 (mkS k m kh kw sh sw tp lf bt rt (ShA L i).1 (ShA L i).2.1 (ShA L i).2.2) = true := by
          have e := hx
          unfold mkE at e
          by_cases hM : mkM k m = false
          · rw [if_pos hM] at e; cases e
          · rw [if_neg hM] at e
            by_cases hw : mkW k kh kw sh sw tp lf bt rt (ShA L i).1 (ShA L i).2.1 (ShA L i).2.2 ≠ 0
            · rw [if_pos hw] at e; exact absurd e hw
            · rw [if_neg hw] at e
              cases hv' : vS3 (mkS k m kh kw sh sw tp lf bt rt (ShA L i).1 (ShA L i).2.1 (ShA L i).2.2) with
              | true => rfl
              | false => rw [hv', if_pos rfl] at e; cases e
        exact this
      · rw [how]
        exact Int.mul_nonneg (by omega) (by have := hst.1; unfold st3; omega)
theorem stG_at0 {O : Nat → Nat → Int} {s0 : Int × Int × Int} : ∀ {i : Nat} {e t : Int} {L : List (Int × Int × Int)} {wk : Int}, stG O s0 i = (e, t, L, wk) → e = 0 → t = 0
  | 0, e, t, L, wk, h, _ => by unfold stG at h; simp only [Prod.mk.injEq] at h; exact h.2.1.symm
  | i + 1, e, t, L, wk, h, he => by
    rw [stG_succ] at h
    by_cases hb : (stG O s0 i).1 ≠ 0
    · rw [if_pos hb] at h
      rw [h] at hb
      exact absurd he hb
    · rw [if_neg hb] at h
      by_cases hx : oT (O i) (stG O s0 i).2.2.1 (stG O s0 i).2.2.2 ≠ 0
      · rw [if_pos hx] at h
        simp only [Prod.mk.injEq] at h
        exact absurd (h.1.trans he) hx
      · rw [if_neg hx] at h
        simp only [Prod.mk.injEq] at h
        exact h.2.1.symm
theorem stG_inv {O : Nat → Nat → Int} {s0 : Int × Int × Int} (hs : vS3 s0 = true) : ∀ (i : Nat) (L : List (Int × Int × Int)) (wk : Int), stG O s0 i = (0, 0, L, wk) → L.length = i + 1 ∧ (∀ s ∈ L, vS3 s = true) ∧ 0 ≤ wk ∧ wk ≤ 131072
  | 0, L, wk, h => by
    unfold stG at h
    simp only [Prod.mk.injEq, true_and] at h
    obtain ⟨rfl, rfl⟩ := h
    exact ⟨rfl, fun s hs' => by simp at hs'; rw [hs']; exact hs, by omega, by omega⟩
  | i + 1, L, wk, h => by
    by_cases hb : (stG O s0 i).1 = 0
    · obtain ⟨e, t, L0, wk0, h0⟩ : ∃ e t L0 wk0, stG O s0 i = (e, t, L0, wk0) := ⟨_, _, _, _, rfl⟩
      by_cases hx : oT (O i) (stG O s0 i).2.2.1 (stG O s0 i).2.2.2 = 0
      · rw [stG_succ] at h
        rw [if_neg (by rw [hb]; decide), if_neg (by rw [hx]; decide)] at h
        simp only [Prod.mk.injEq, true_and] at h
        obtain ⟨rfl, rfl⟩ := h
        rw [h0] at hx hb ⊢
        simp only at hx hb ⊢
        have ht : t = 0 := stG_at0 h0 hb
        subst hb ht
        obtain ⟨i1, i2, i3, i4⟩ := stG_inv hs i L0 wk0 h0
        obtain ⟨t1, t2, t3, -⟩ := tk_0 hx i2
        refine ⟨by simp [i1], fun s hs' => ?_, Int.add_nonneg i3 t2, t3⟩
        rcases List.mem_append.1 hs' with q | q
        · exact i2 s q
        · simp at q; rw [q]; exact t1
      · rw [stG_succ] at h
        rw [if_neg (by rw [hb]; decide), if_pos hx] at h
        simp only [Prod.mk.injEq] at h
        exact absurd h.1 hx
    · rw [stG_succ, if_pos hb] at h
      rw [h] at hb
      exact absurd rfl hb
end Go.Proofs.Ytcjnhchjikcigaa

/- goThrough of package model: what it answers. -/
namespace Go.Proofs.Ytcjnhchjikcigaa
open Go.ChangeShapes Go.WideShapes Go.ChangeAt Go.RowKit
set_option linter.unusedVariables false
theorem St.drop2 {w0 w : World} {a b : Nat × Array Value × TypeId} {l : List (Nat × Array Value × TypeId)} (h : St w0 w (a :: b :: l)) : St w0 w (a :: l) :=
  h.sub fun z hz => by simp only [List.mem_cons] at *; rcases hz with h | h <;> simp [h]
theorem St.toFront {w0 w : World} {a b c : Nat × Array Value × TypeId} {l : List (Nat × Array Value × TypeId)} (h : St w0 w (a :: b :: c :: l)) : St w0 w (b :: c :: a :: l) :=
  h.sub fun z hz => by simp only [List.mem_cons] at *; rcases hz with h | h | h | h <;> simp [h]
theorem set5b {w0 w : World} {B N M : Nat} {a b c d e : Value} (h : Below B w0 w) (hN : B ≤ N) (hM : B ≤ M) : Below B w0 (((((w.setCell ⟨N, 0, none⟩ a).setCell ⟨N, 1, none⟩ b).setCell ⟨M, 0, none⟩ c).setCell ⟨M, 1, none⟩ d).setCell ⟨M, 2, none⟩ e) :=
  ((((h.setCell (p := ⟨N, 0, none⟩) hN a).setCell (p := ⟨N, 1, none⟩) hN b).setCell (p := ⟨M, 0, none⟩) hM c).setCell (p := ⟨M, 1, none⟩) hM d).setCell (p := ⟨M, 2, none⟩) hM e
theorem set5h {w : World} {g N M : Nat} {o : Obj} {a b c d e : Value} (h : w.heap[g]? = some o) (hN : g ≠ N) (hM : g ≠ M) : (((((w.setCell ⟨N, 0, none⟩ a).setCell ⟨N, 1, none⟩ b).setCell ⟨M, 0, none⟩ c).setCell ⟨M, 1, none⟩ d).setCell ⟨M, 2, none⟩ e).heap[g]? = some o := by
  rw [Below.heap_setCell _ _ _ _ hM, Below.heap_setCell _ _ _ _ hM, Below.heap_setCell _ _ _ _ hM, Below.heap_setCell _ _ _ _ hN, Below.heap_setCell _ _ _ _ hN]
  exact h
theorem wpList_st_new {P : Program} {ops : Array Oper} {rest : List Oper} {o : Oper} {a : Act} {Q : Exit → Act → World → Prop} (hgd : o.guard = none) (ty : TypeId) (x y : Operand) (ho : o.op = .store ty x y) (w : World) (c cells : Array Value)
    (hx : a.eval x = .pointer (some ⟨w.heap.size, 0, none⟩)) (hy : a.eval y = .agg cells) (hi : (P.info? ty).map (·.size) = some cells.size) (hold : c.size = cells.size) (h1 : cells.all (·.oneCell') = true)
    (h : wpList P ops Q rest (a.put o.dst undef) (w.alloc (.cells cells ty))) : wpList P ops Q (o :: rest) a (w.alloc (.cells c ty)) :=
  wpList_store_row hgd ty x y ho w.heap.size cells hx hy ty c (heap_alloc_new w _) hi hold h1 (by rw [World.setRow_alloc_new]; exact h)
/-- 'make' of shapes, none yet. -/
theorem wpList_mk3 {w : World} {ops : Array Oper} {rest : List Oper} {o : Oper} {a : Act} {Q : Exit → Act → World → Prop} (hg : o.guard = none) (l c : Operand) (hop : o.op = Op.makeSlice 71 l c)
    (m : Nat) (C : Int) (hl : a.eval l = .int .i64 0) (hc : a.eval c = .int .i64 C) (hC : C = (m : Int)) (hm : m ≤ 1000)
    (hK : ∀ cur : Array Value, cur.size = m * 3 → wpList Try.prog ops Q rest (a.put o.dst (.slice (some ⟨w.heap.size, 0, none⟩) 0 m)) (w.alloc (.cells cur 23))) :
    wpList Try.prog ops Q (o :: rest) a w := by
  obtain ⟨i0, hi0, hz0, hz1, hz2⟩ := info_parts (show (Try.prog.info? 23).map (fun i => (i.zero, i.size, i.bytes)) = some (some (.agg #[.int .i64 0, .int .i64 0, .int .i64 0]), 3, 24) by kernel_rfl)
  subst hC
  refine wpList_plain hg fun K hK' => ?_
  have hr := run_make (P := Try.prog) w 71 23 i0 (.agg #[.int .i64 0, .int .i64 0, .int .i64 0]) Try.underlying71 hi0 hz0 .i64 .i64 ((0 : Nat) : Int) m (by omega) (by omega) (by rw [hz2]; omega) (by omega)
  simp only [Int.toNat_natCast, hz1] at hr
  unfold Oper.wp
  simp only [execOp, hop, hl, hc]
  simp [Result.andThen]
  have hr' := hr
  simp only [Int.natCast_zero] at hr'
  rw [hr']
  exact hK' _ _ (hK _ (by rw [size_madeCells]))
/-- 'append' of one shape, where there is room. -/
theorem wpList_ap3 {w : World} {ops : Array Oper} {rest : List Oper} {o : Oper} {a : Act} {Q : Exit → Act → World → Prop} (hg : o.guard = none) (s x : Operand) (hop : o.op = Op.call { callee := Callee.builtin Builtin.append, args := #[s, x], argTypes := #[71, 71] })
    (g n cap : Nat) (hs : a.eval s = .slice (some ⟨g, 0, none⟩) n cap) (b : Nat) (u v z : Value) (hx : a.eval x = .slice (some ⟨b, 0, none⟩) 1 1) (hb : w.heap[b]? = some (.cells #[u, v, z] 23 (0, 0))) (h1 : ∀ q ∈ [u, v, z], q.oneCell' = true)
    (cur : Array Value) (hcur : w.heap[g]? = some (.cells cur 23 (0, 0))) (hsz : n * 3 + 3 ≤ cur.size) (hroom : n + 1 ≤ cap)
    (hK : wpList Try.prog ops Q rest (a.put o.dst (.slice (some ⟨g, 0, none⟩) (n + 1) cap)) (w.setCells g (0 + n * 3) [u, v, z])) : wpList Try.prog ops Q (o :: rest) a w := by
  obtain ⟨i0, hi0, hz0, hz1, hz2⟩ := info_parts (show (Try.prog.info? 23).map (fun i => (i.zero, i.size, i.bytes)) = some (some (.agg #[.int .i64 0, .int .i64 0, .int .i64 0]), 3, 24) by kernel_rfl)
  refine wpList_plain hg fun K hK' => ?_
  have := step_append_room (P := Try.prog) (ops := ops) (o := o) (a := a) (w := w) (K := K) (Q := Q) (E := False) hg s x 71 hop 23 i0 3 Try.underlying71 hi0 hz1 g 0 n cap hs ⟨b, 0, none⟩ 1 1 [u, v, z] hx rfl (new_cells hb) h1 hroom (spare_of hcur hsz) (hK' _ _ hK)
  rwa [if_pos (by simp [Region.wanted, hg])] at this
/-- Shapes that a call answers. -/
def Shp (w : World) (base : Nat) (v : Value) (L : List (Int × Int × Int)) : Prop :=
  (v = .slice none 0 0 ∧ L = []) ∨ ∃ (g cap : Nat) (cur : Array Value), v = .slice (some ⟨g, 0, none⟩) L.length cap ∧ base ≤ g ∧ w.heap[g]? = some (.cells cur 23 (0, 0)) ∧ Cu cur cap L ∧ cap ≤ 1000
/-- The whole answer. -/
def gtR (O : Nat → Nat → Int) (h w c lo hi ot : Int) (on : Nat) : Int × Int × List (Int × Int × Int) × Int := if ouE h w c lo hi ot on ≠ 0 then (ouE h w c lo hi ot on, 0, [], 0) else stG O (h, w, c) on
set_option maxHeartbeats 4000000 in
set_option maxRecDepth 100000 in
theorem gothrough_any (h w c lo hi ot : Int) (oa : Option Addr) (on oc : Nat) (O : Nat → Nat → Int) (W : World) (hM : MRow W oa on oc O) :
    Calls Try.prog 41 #[.agg #[.int .i64 h, .int .i64 w, .int .i64 c, .int .i64 lo, .int .i64 hi, .slice oa on oc, .int .i64 ot]] W fun e w' => ∃ v, e = .returned (.tuple #[.agg #[v, .int .i64 (gtR O h w c lo hi ot on).2.2.2], .agg #[.int .i64 (gtR O h w c lo hi ot on).1, .int .i64 (gtR O h w c lo hi ot on).2.1, .int .i64 0]]) ∧ Shp w' W.heap.size v (gtR O h w c lo hi ot on).2.2.1 ∧ Below W.heap.size W w' := by
  obtain ⟨x, hx⟩ : ∃ x, ouE h w c lo hi ot on = x := ⟨_, rfl⟩
  have hU : Hid (∀ W, Calls Try.prog 48 #[.agg #[.int .i64 h, .int .i64 w, .int .i64 c, .int .i64 lo, .int .i64 hi, .slice oa on oc, .int .i64 ot]] W fun e w' => e = .returned (.int .i64 x) ∧ Below W.heap.size W w') := fun W => by rw [← hx]; exact outside_any h w c lo hi ot oa on oc W
  obtain ⟨Re, Ra, RL, Rw, hR⟩ : ∃ Re Ra RL Rw, gtR O h w c lo hi ot on = (Re, Ra, RL, Rw) := ⟨_, _, _, _, rfl⟩
  rw [hR]
  simp only
  by_cases hx0 : x = 0
  rotate_left
  · have hRR : gtR O h w c lo hi ot on = (x, 0, [], 0) := by unfold gtR; rw [hx, if_pos hx0]
    rw [hR] at hRR
    simp only [Prod.mk.injEq] at hRR
    obtain ⟨rfl, rfl, rfl, rfl⟩ := hRR
    clear hx hR hM
    go_enter Try.func41, Try.ntmps41
    go_wp2_with fail
    refine (hU.out _).mono ?_
    rintro e w1 ⟨rfl, hb'⟩
    have s1 := (St.start W).new.new.new.call hb'
    clear hb'
    try simp only [World.size_setCell] at s1
    try simp only [World.size_alloc] at s1
    obtain ⟨c1, f1, zw1_1, c2, f2, zw1_2, c3, f3, zw1_3, -⟩ := s1.rules
    go_wp2
    exact bodyPost_ret (v := .tuple #[.agg #[.slice none 0 0, .int .i64 0], .agg #[.int .i64 Re, .int .i64 0, .int .i64 0]]) (by simp [results, Try.results41, go_sem, *]) rfl ⟨_, rfl, .inl ⟨rfl, rfl⟩, set5b s1.below (by omega) (by omega)⟩
  subst hx0
  obtain ⟨g0, r0, ho64, hot0, hot1⟩ := ouE_0 hx
  have hRG : Hid (stG O (h, w, c) on = (Re, Ra, RL, Rw)) := by unfold Hid; rw [← hR]; unfold gtR; rw [hx, if_neg (by decide)]
  have hocc := hM.1
  have hocm := hM.2.1
  unfold maxLen at hocm
  have hM' : Hid (MRow W oa on oc O) := hM
  clear hx hR hM hot0 hot1 r0
  go_enter Try.func41, Try.ntmps41
  go_wp2_with fail
  refine (hU.out _).mono ?_
  rintro e w1 ⟨rfl, hb'⟩
  have s1 := (St.start W).new.new.new.call hb'
  clear hb'
  try simp only [World.size_setCell] at s1
  try simp only [World.size_alloc] at s1
  obtain ⟨c1, f1, zw1_1, c2, f2, zw1_2, c3, f3, zw1_3, -⟩ := s1.rules
  go_wp2_with (first
    | (at_make; refine wpList_mk3 rfl _ _ rfl (on + 1) _ rfl rfl (by omega) (by omega) ?_; intro cur hcur)
    | (at_builtin; refine wpList_ap3 rfl (.tmp 22) (.tmp 25) rfl w1.heap.size 0 (on + 1) rfl (w1.heap.size + 1) (.int .i64 h) (.int .i64 w) (.int .i64 c) rfl (heap_alloc2_new w1 _ _) (by simp [Value.oneCell']) cur (heap_alloc2_old w1 _ _) (by omega) (by omega) ?_; have s2 := (s1.new (c := cur) (t := 23)).new (c := #[.int .i64 h, .int .i64 w, .int .i64 c]) (t := 23); simp only [World.size_alloc] at s2; have s3 := s2.up1.app3 (by simp; omega) (o := 0 * 3) (x := .int .i64 h) (y := .int .i64 w) (z := .int .i64 c); generalize World.setCells _ _ _ _ = w2 at s3 ⊢; clear s2 c1 f1 c2 f2 c3 f3; obtain ⟨-, -, zg, -, -, -, -, -, -, -, -, -, c3, f3, zm, -⟩ := s3.rules))
  have hC1 : Cu _ (on + 1) [(h, w, c)] := (show Cu cur (on + 1) [] from ⟨hcur, by simp, by rw [show ([] : List (Int × Int × Int)).length * 3 = 0 from rfl, List.take_zero]; rfl⟩).add (by simp) h w c
  have s4 := s3.drop2.new (c := #[.slice (some ⟨w1.heap.size, 0, none⟩) 1 (on + 1), .int .i64 0]) (t := 95)
  have H4 : Hid (∃ cur, Cu cur (on + 1) [(h, w, c)] ∧ St W _ ((_, _, _) :: (_, cur, _) :: _)) := ⟨_, hC1, s4⟩
  clear s3 s4 hC1 c3 f3 hcur s1
  go_loopw [31] (fun i wr => ∃ (k : Nat) (L : List (Int × Int × Int)) (wk : Int) (cur : Array Value), k ≤ on ∧ i = .int .i64 k ∧ stG O (h, w, c) k = (0, 0, L, wk) ∧ Cu cur (on + 1) L ∧ St W wr ((w2.heap.size, #[.slice (some ⟨w1.heap.size, 0, none⟩) (k + 1) (on + 1), .int .i64 wk], 95) :: (w1.heap.size, cur, 23) :: (W.heap.size + 1 + 1, #[.int .i64 0, .int .i64 0, .int .i64 0], 39) :: (W.heap.size + 1, #[.slice none 0 0, .int .i64 0], 95) :: (W.heap.size, #[.int .i64 h, .int .i64 w, .int .i64 c, .int .i64 lo, .int .i64 hi, .slice oa on oc, .int .i64 ot], 26) :: [])) (fun i _ => on - (intOf i).toNat)
  case atStart =>
    obtain ⟨cur1, hC1, s4⟩ := H4.out
    exact ⟨0, [(h, w, c)], 0, cur1, Nat.zero_le _, rfl, rfl, hC1, s4⟩
  case round =>
    obtain ⟨k, L, wk, cur1, hk, rfl, hst, hCu, sr⟩ := hrel
    clear H4 cur
    obtain ⟨i1, i2, i3, i4⟩ := stG_inv (O := O) (s0 := (h, w, c)) g0 k L wk hst
    obtain ⟨c1, f1, zr1, c2, f2, zr2, c3, f3, zr3, c4, f4, zr4, c5, f5, zr5, -⟩ := sr.rules
    by_cases hlt : k < on
    · obtain ⟨x, wa, lw, cw, ba, lb, cb, rfl, hl12, hl13, hcell⟩ := (hM'.out.below sr.below).at hlt
      have sb := (sr.new (c := #[.int .i64 (O k 0), .int .i64 (O k 1), .int .i64 (O k 2), .int .i64 (O k 3), .int .i64 (O k 4), .int .i64 (O k 5), .int .i64 (O k 6), .int .i64 (O k 7), .int .i64 (O k 8), .int .i64 (O k 9), .int .i64 (O k 10), .int .i64 (O k 11), .slice wa lw cw, .slice ba lb cb, .int .i64 (O k 14), .int .i64 (O k 15), .int .i64 (O k 16), .int .i64 (O k 17), .int .i64 (O k 18), .int .i64 (O k 19), .int .i64 (O k 20), .int .i64 (O k 21)]) (t := 70)).toFront
      have hT : tkE (O k 0) (O k 1) (O k 2) (O k 3) (O k 4) (O k 5) (O k 6) (O k 7) (O k 8) (O k 9) (O k 10) (O k 11) lw lb (O k 14) (O k 15) (O k 16) (O k 17) (O k 18) (O k 19) (O k 20) (O k 21) L wk = oT (O k) L wk := by unfold oT; rw [hl12, hl13]; rfl
      have hcall := take_any (O k 0) (O k 1) (O k 2) (O k 3) (O k 4) (O k 5) (O k 6) (O k 7) (O k 8) (O k 9) (O k 10) (O k 11) wa lw cw ba lb cb (O k 14) (O k 15) (O k 16) (O k 17) (O k 18) (O k 19) (O k 20) (O k 21) W _ w2.heap.size w1.heap.size (on + 1) (k + 1) cur1 L wk _ i1 sb (by omega) ⟨i3, i4⟩ (by omega) hCu i2 (by omega) (by simp; omega)
      rw [hT] at hcall
      obtain ⟨y, hy⟩ : ∃ y, oT (O k) L wk = y := ⟨_, rfl⟩
      rw [hy] at hcall
      have Hcall : Hid _ := hcall
      have Hbox := heap_alloc_new wr (.cells #[.int .i64 (O k 0), .int .i64 (O k 1), .int .i64 (O k 2), .int .i64 (O k 3), .int .i64 (O k 4), .int .i64 (O k 5), .int .i64 (O k 6), .int .i64 (O k 7), .int .i64 (O k 8), .int .i64 (O k 9), .int .i64 (O k 10), .int .i64 (O k 11), .slice wa lw cw, .slice ba lb cb, .int .i64 (O k 14), .int .i64 (O k 15), .int .i64 (O k 16), .int .i64 (O k 17), .int .i64 (O k 18), .int .i64 (O k 19), .int .i64 (O k 20), .int .i64 (O k 21)] 70)
      have hcell' : Hid (∀ j v, [.int .i64 (O k 0), .int .i64 (O k 1), .int .i64 (O k 2), .int .i64 (O k 3), .int .i64 (O k 4), .int .i64 (O k 5), .int .i64 (O k 6), .int .i64 (O k 7), .int .i64 (O k 8), .int .i64 (O k 9), .int .i64 (O k 10), .int .i64 (O k 11), .slice wa lw cw, .slice ba lb cb, .int .i64 (O k 14), .int .i64 (O k 15), .int .i64 (O k 16), .int .i64 (O k 17), .int .i64 (O k 18), .int .i64 (O k 19), .int .i64 (O k 20), .int .i64 (O k 21)][j]? = some v → wr.cell? ((x.add (k * 22)).add j) = some v) := hcell
      clear hcall hcell hT hl12 hl13
      go_upto_region 8 with fail
      go_wp2_with (first
        | (refine wpList_load_any rfl 70 (.tmp 34) rfl _ rfl [.int .i64 (O k 0), .int .i64 (O k 1), .int .i64 (O k 2), .int .i64 (O k 3), .int .i64 (O k 4), .int .i64 (O k 5), .int .i64 (O k 6), .int .i64 (O k 7), .int .i64 (O k 8), .int .i64 (O k 9), .int .i64 (O k 10), .int .i64 (O k 11), .slice wa lw cw, .slice ba lb cb, .int .i64 (O k 14), .int .i64 (O k 15), .int .i64 (O k 16), .int .i64 (O k 17), .int .i64 (O k 18), .int .i64 (O k 19), .int .i64 (O k 20), .int .i64 (O k 21)] _ hcell'.out Try.underlying70 rfl (by kernel_rfl) ?_)
        | (refine wpList_st_new rfl 70 (.tmp 8) (.tmp 35) rfl wr _ #[.int .i64 (O k 0), .int .i64 (O k 1), .int .i64 (O k 2), .int .i64 (O k 3), .int .i64 (O k 4), .int .i64 (O k 5), .int .i64 (O k 6), .int .i64 (O k 7), .int .i64 (O k 8), .int .i64 (O k 9), .int .i64 (O k 10), .int .i64 (O k 11), .slice wa lw cw, .slice ba lb cb, .int .i64 (O k 14), .int .i64 (O k 15), .int .i64 (O k 16), .int .i64 (O k 17), .int .i64 (O k 18), .int .i64 (O k 19), .int .i64 (O k 20), .int .i64 (O k 21)] rfl rfl (by kernel_rfl) rfl (by simp [Value.oneCell']) ?_)
        | (refine wpList_load_row rfl 70 (.tmp 8) rfl wr.heap.size rfl 70 _ (0, 0) _ Hbox Try.underlying70 rfl (by kernel_rfl) ?_))
      refine Calls.mono Hcall.out ?_
      rintro e w3 ⟨rfl, T⟩
      clear Hcall Hbox hcell' c1 f1 c2 f2 c3 f3 c4 f4 c5 f5 sb sr
      by_cases hy0 : y = 0
      · obtain ⟨n', cur', wk', s5, hz⟩ := T
        obtain ⟨rfl, rfl, hCu'⟩ := hz hy0
        have hst' := stG_ok hst (hy.trans hy0)
        have Hst : Hid (stG O (h, w, c) (k + 1) = _) := hst'
        have HC : Hid (Cu cur' (on + 1) _) := hCu'
        have Hs5 : Hid (St W w3 _) := s5
        clear hst' hCu' hst hz hy hCu s5 i1 i2
        subst hy0
        go_wp2
        go_round
        case rel => exact ⟨k + 1, _, _, cur', by omega, rfl, Hst.out, HC.out, Hs5.out.drop3⟩
        case measure => simp [intOf]; omega
      · obtain ⟨n', cur', wk', s5, -⟩ := T
        have hst' := stG_err hst hy hy0
        have hon : stG O (h, w, c) on = (y, (k : Int) + 1, [], 0) := by
          have := stG_bad (O := O) (s0 := (h, w, c)) (i := k + 1) (by rw [hst']; exact hy0) (on - (k + 1))
          rw [show k + 1 + (on - (k + 1)) = on by omega] at this
          rw [this, hst']
        rw [hRG.out] at hon
        simp only [Prod.mk.injEq] at hon
        obtain ⟨e1, e2, e3, e4⟩ := hon
        have HE : Hid (Re = y ∧ Ra = (k : Int) + 1 ∧ RL = [] ∧ Rw = 0) := ⟨e1, e2, e3, e4⟩
        clear e1 e2 e3 e4 hst' hst hy hCu i1 i2 hRG
        obtain ⟨c1, f1, zt1, c2, f2, zt2, c3, f3, zt3, c4, f4, zt4, c5, f5, zt5, c6, f6, zt6, -⟩ := s5.rules
        go_wp2
        exact bodyPost_ret (v := .tuple #[.agg #[.slice none 0 0, .int .i64 0], .agg #[.int .i64 y, .int .i64 ((k : Int) + 1), .int .i64 0]]) (by simp [results, Try.results41, go_sem, *]) rfl ⟨_, by rw [HE.out.1, HE.out.2.1, HE.out.2.2.2], .inl ⟨rfl, HE.out.2.2.1⟩, set5b s5.below (by omega) (by omega)⟩
    · obtain rfl : k = on := by omega
      rw [hRG.out] at hst
      simp only [Prod.mk.injEq] at hst
      obtain ⟨e1, e2, e3, e4⟩ := hst
      have HE : Hid (Re = 0 ∧ Ra = 0 ∧ RL = L ∧ Rw = wk) := ⟨e1, e2, e3, e4⟩
      have HL : Hid (L.length = k + 1) := i1
      clear e1 e2 e3 e4 hRG i1
      go_wp2
      exact bodyPost_ret (v := .tuple #[.agg #[.slice (some ⟨w1.heap.size, 0, none⟩) (k + 1) (k + 1), .int .i64 wk], .agg #[.int .i64 0, .int .i64 0, .int .i64 0]]) (by simp [results, Try.results41, go_sem, *]) rfl ⟨_, by rw [HE.out.1, HE.out.2.1, HE.out.2.2.2], .inr ⟨w1.heap.size, k + 1, cur1, by rw [HE.out.2.2.1, HL.out], by omega, set5h sr.h2 (by omega) (by omega), by rw [HE.out.2.2.1]; exact hCu, by omega⟩, set5b sr.below (by omega) (by omega)⟩
end Go.Proofs.Ytcjnhchjikcigaa

/- What formOfList of package cert returns. -/
namespace Go.Proofs.Ytcjnhchjikcigaa
open Go.ChangeShapes Go.WideShapes Go.ChangeAt Go.RowKit
set_option linter.unusedVariables false
set_option maxHeartbeats 4000000 in
set_option maxRecDepth 100000 in
theorem cfol_any (ca : Option Addr) (ln cc : Nat) (l : List Pl) (op n : Int) (W : World) (hL : ERow 6 pcs W ca ln cc l) (hop : 0 ≤ op ∧ op ≤ 1000) :
    Calls Try.prog 31 #[.slice ca ln cc, .int .i64 op, .int .i64 n] W fun e w' => e = .returned (.agg #[.int .i64 (liE n op l).1, .int .i64 (liE n op l).2.1, .int .i64 (liE n op l).2.2]) ∧ Below W.heap.size W w' := by
  have l1 := hL.1
  have l2 := hL.2.1
  have l3 := hL.2.2.1
  unfold maxLen at l3
  have H1 : Hid (ERow 6 pcs W ca ln cc l) := hL
  clear hL
  by_cases q : (ln : Int) = n
  rotate_left
  · rw [show liE n op l = (70, op, 0) by unfold liE; rw [l1, if_neg q]]
    clear H1
    go_enter Try.func31, Try.ntmps31
    go_wp2
    exact bodyPost_ret (v := .agg #[.int .i64 70, .int .i64 op, .int .i64 0]) (by simp [results, Try.results31, go_sem]) rfl ⟨rfl, (St.start W).new.below⟩
  · rw [show liE n op l = plE op l 0 by unfold liE; rw [l1, if_pos q]]
    obtain ⟨e1, e2, e3, hX⟩ : ∃ e1 e2 e3, plE op l 0 = (e1, e2, e3) := ⟨_, _, _, rfl⟩
    rw [hX]
    simp only
    have HX : Hid (plE op l 0 = (e1, e2, e3)) := hX
    have HN : Hid (l.length = ln) := l1
    have s0 := (St.start W).new (c := #[.int .i64 0, .int .i64 0, .int .i64 0]) (t := 39)
    have S0 : Hid (St W _ _) := s0
    clear s0 hX l1
    subst q
    go_enter Try.func31, Try.ntmps31
    go_wp2
    go_loopw [17] (fun i wr => ∃ k : Nat, k ≤ ln ∧ i = .int .i64 k ∧ plE op (l.drop k) k = (e1, e2, e3) ∧ St W wr [(W.heap.size, #[.int .i64 0, .int .i64 0, .int .i64 0], 39)]) (fun i _ => ln - (intOf i).toNat)
    case atStart => exact ⟨0, Nat.zero_le _, rfl, by simpa using HX.out, S0.out⟩
    case round =>
      obtain ⟨k, hk, rfl, hp, sr⟩ := hrel
      by_cases hlt : k < ln
      rotate_left
      · obtain rfl : k = ln := by omega
        rw [List.drop_of_length_le (by rw [HN.out]; omega)] at hp
        unfold plE at hp
        simp only [Prod.mk.injEq] at hp
        obtain ⟨rfl, rfl, rfl⟩ := hp
        obtain ⟨c1, f1, z1, -⟩ := sr.rules
        have Hs : Hid (St W wr _) := sr
        clear sr HX S0 H1
        go_wp2
        exact bodyPost_ret (v := .agg #[.int .i64 0, .int .i64 0, .int .i64 0]) (by simp [results, Try.results31, go_sem, *]) rfl ⟨rfl, set3b Hs.out.below (Nat.le_refl _)⟩
      · obtain ⟨x, p, rfl, -, hd, hc⟩ := (H1.out.below sr.below).at hlt
        obtain ⟨p1, p2, p3, p4, p5, p6⟩ := p
        rw [hd] at hp
        have hcell : Hid (∀ q v, [.int .i64 p1, .int .i64 p2, .int .i64 p3, .int .i64 p4, .int .i64 p5, .int .i64 p6][q]? = some v → wr.cell? ((x.add (k * 6)).add q) = some v) := hc
        have HP : Hid (plE op ((p1, p2, p3, p4, p5, p6) :: l.drop (k + 1)) k = (e1, e2, e3)) := hp
        have sb := sr.new (c := #[.int .i64 p1, .int .i64 p2, .int .i64 p3, .int .i64 p4, .int .i64 p5, .int .i64 p6]) (t := 61)
        have HV1 : Hid (∀ w, _) := cval_any p3 p4
        have HV2 : Hid (∀ w, _) := cval_any p5 p6
        clear hc hd hp HX S0 sr
        go_upto_region 6 with (first
          | (refine wpList_load_any rfl 61 (.tmp 20) rfl _ rfl [.int .i64 p1, .int .i64 p2, .int .i64 p3, .int .i64 p4, .int .i64 p5, .int .i64 p6] _ hcell.out Try.underlying61 rfl (by kernel_rfl) ?_)
          | (refine wpList_st_new rfl 61 (.tmp 8) (.tmp 21) rfl wr _ #[.int .i64 p1, .int .i64 p2, .int .i64 p3, .int .i64 p4, .int .i64 p5, .int .i64 p6] rfl rfl (by kernel_rfl) rfl (by simp [Value.oneCell']) ?_))
        obtain ⟨B, hB⟩ : ∃ B, wr.heap.size = B := ⟨_, rfl⟩
        obtain ⟨wb, hwb⟩ : ∃ wb, wr.alloc (.cells #[.int .i64 p1, .int .i64 p2, .int .i64 p3, .int .i64 p4, .int .i64 p5, .int .i64 p6] 61) = wb := ⟨_, rfl⟩
        rw [hwb, hB] at sb
        rw [hwb]
        rw [hB]
        clear hwb hcell hB
        obtain ⟨c1, f1, z1, c2, f2, z2, -⟩ := sb.rules
        by_cases v1 : p3 ≤ p4
        · rw [decide_eq_true v1] at HV1
          by_cases v2 : p5 ≤ p6
          · rw [decide_eq_true v2] at HV2
            have HQ : Hid (plE op (l.drop (k + 1)) (k + 1) = (e1, e2, e3)) := (plE_yes (by simp [pvB, v1, v2])).symm.trans HP.out
            clear HP v1 v2
            go_wp2_with fail
            refine (HV1.out _).mono ?_
            rintro e w1 ⟨rfl, hb⟩
            have s1 := sb.call hb
            clear hb c1 f1 c2 f2
            obtain ⟨c1, f1, y1, c2, f2, y2, -⟩ := s1.rules
            go_wp2_with fail
            refine (HV2.out _).mono ?_
            rintro e w2 ⟨rfl, hb⟩
            have s2 : Hid (St W w2 _) := (s1.call hb).tail
            clear hb c1 f1 c2 f2
            go_wp2
            go_roundw
            case rel => exact ⟨k + 1, by omega, by go_num, HQ.out, s2.out⟩
            case measure => simp [intOf]; omega
          · rw [decide_eq_false v2] at HV2
            have HQ := (plE_no (by simp [pvB, v2])).symm.trans HP.out
            simp only [Prod.mk.injEq] at HQ
            obtain ⟨rfl, rfl, rfl⟩ := HQ
            clear HP v1 v2
            go_wp2_with fail
            refine (HV1.out _).mono ?_
            rintro e w1 ⟨rfl, hb⟩
            have s1 := sb.call hb
            clear hb c1 f1 c2 f2
            obtain ⟨c1, f1, y1, c2, f2, y2, -⟩ := s1.rules
            go_wp2_with fail
            refine (HV2.out _).mono ?_
            rintro e w2 ⟨rfl, hb⟩
            have s2 := s1.call hb
            clear hb c1 f1 c2 f2
            obtain ⟨c1, f1, x1, c2, f2, x2, -⟩ := s2.rules
            have Hs : Hid (Below W.heap.size W w2) := s2.below
            clear s2 s1 sb
            go_wp2
            exact bodyPost_ret (v := .agg #[.int .i64 30, .int .i64 op, .int .i64 ((k : Int) + 1)]) (by simp [results, Try.results31, go_sem, *]) rfl ⟨rfl, set3b Hs.out (Nat.le_refl _)⟩
        · rw [decide_eq_false v1] at HV1
          have HQ := (plE_no (by simp [pvB, v1])).symm.trans HP.out
          simp only [Prod.mk.injEq] at HQ
          obtain ⟨rfl, rfl, rfl⟩ := HQ
          clear HP v1
          go_wp2_with fail
          refine (HV1.out _).mono ?_
          rintro e w1 ⟨rfl, hb⟩
          have s1 := sb.call hb
          clear hb c1 f1 c2 f2
          obtain ⟨c1, f1, y1, c2, f2, y2, -⟩ := s1.rules
          have Hs : Hid (Below W.heap.size W w1) := s1.below
          clear s1 sb
          go_wp2
          exact bodyPost_ret (v := .agg #[.int .i64 30, .int .i64 op, .int .i64 ((k : Int) + 1)]) (by simp [results, Try.results31, go_sem, *]) rfl ⟨rfl, set3b Hs.out (Nat.le_refl _)⟩
end Go.Proofs.Ytcjnhchjikcigaa

/- Check, Shapes and Work of package model: what each answers. -/
namespace Go.Proofs.Ytcjnhchjikcigaa
open Go.ChangeShapes Go.WideShapes Go.ChangeAt Go.RowKit
set_option linter.unusedVariables false
theorem Shp.slice {w : World} {base : Nat} {v : Value} {L : List (Int × Int × Int)} (h : Shp w base v L) : ∃ a cap, v = .slice a L.length cap := by
  rcases h with ⟨rfl, rfl⟩ | ⟨g, cap, cur, rfl, -⟩
  · exact ⟨_, _, rfl⟩
  · exact ⟨_, _, rfl⟩
theorem Shp.below {w w' : World} {base : Nat} {v : Value} {L : List (Int × Int × Int)} (h : Shp w base v L) (q : Below w.heap.size w w') : Shp w' base v L := by
  rcases h with h | ⟨g, cap, cur, h1, h2, h3, h4⟩
  · exact .inl h
  · exact .inr ⟨g, cap, cur, h1, h2, (q.block _ (lt_of_heap h3)).trans h3, h4⟩
theorem Shp.base {w : World} {b c : Nat} {v : Value} {L : List (Int × Int × Int)} (h : Shp w b v L) (q : c ≤ b) : Shp w c v L := by
  rcases h with h | ⟨g, cap, cur, h1, h2, h3⟩
  · exact .inl h
  · exact .inr ⟨g, cap, cur, h1, by omega, h3⟩
theorem Shp.set3 {w : World} {N : Nat} {v a b c : Value} {L : List (Int × Int × Int)} (h : Shp w (N + 1) v L) : Shp (((w.setCell ⟨N, 0, none⟩ a).setCell ⟨N, 1, none⟩ b).setCell ⟨N, 2, none⟩ c) N v L := by
  rcases h with h | ⟨g, cap, cur, h1, h2, h3, h4⟩
  · exact .inl h
  · refine .inr ⟨g, cap, cur, h1, by omega, ?_, h4⟩
    rw [Below.heap_setCell _ _ _ _ (show g ≠ N by omega), Below.heap_setCell _ _ _ _ (show g ≠ N by omega), Below.heap_setCell _ _ _ _ (show g ≠ N by omega)]
    exact h3
set_option maxHeartbeats 1000000 in
theorem shapes_any (h w c lo hi ot : Int) (oa : Option Addr) (on oc : Nat) (O : Nat → Nat → Int) (W : World) (hM : MRow W oa on oc O) :
    Calls Try.prog 20 #[.agg #[.int .i64 h, .int .i64 w, .int .i64 c, .int .i64 lo, .int .i64 hi, .slice oa on oc, .int .i64 ot]] W fun e w' => ∃ v, e = .returned (.tuple #[v, .agg #[.int .i64 (gtR O h w c lo hi ot on).1, .int .i64 (gtR O h w c lo hi ot on).2.1, .int .i64 0]]) ∧ Shp w' W.heap.size v (gtR O h w c lo hi ot on).2.2.1 ∧ Below W.heap.size W w' := by
  have hG : Hid (∀ W, MRow W oa on oc O → _) := fun W hW => gothrough_any h w c lo hi ot oa on oc O W hW
  obtain ⟨Re, Ra, RL, Rw, hR⟩ : ∃ Re Ra RL Rw, gtR O h w c lo hi ot on = (Re, Ra, RL, Rw) := ⟨_, _, _, _, rfl⟩
  rw [hR] at hG ⊢
  simp only
  have hM2 : Hid (MRow W oa on oc O) := hM
  clear hR hM
  go_enter Try.func20, Try.ntmps20
  go_wp2_with fail
  refine Calls.mono (hG.out _ (hM2.out.below (St.start W).new.new.below)) ?_
  rintro e w1 ⟨v, rfl, hS, hb⟩
  obtain ⟨va, vc, rfl⟩ := hS.slice
  have s1 := ((St.start W).new.new).call hb
  simp only [World.size_alloc] at s1
  obtain ⟨c1, f1, z1, c2, f2, z2, -⟩ := s1.rules
  have hS2 : Hid (Shp w1 W.heap.size (.slice va RL.length vc) RL) := hS.base (by simp; omega)
  have hs1 : Hid (Below W.heap.size W w1) := s1.below
  have hlt : Hid (∀ g, W.heap.size + 1 + 1 ≤ g → g ≠ W.heap.size + 1) := fun g hg => by omega
  have hS3 : Hid (Shp w1 (W.heap.size + 1 + 1) (.slice va RL.length vc) RL) := by unfold Hid; simpa using hS
  clear hb hS s1
  go_wp2
  go_region_law (fail)
  all_goals
    go_wp2
    exact bodyPost_ret (v := .tuple #[.slice va RL.length vc, .agg #[.int .i64 Re, .int .i64 Ra, .int .i64 0]]) (by simp [results, Try.results20, go_sem, *]) rfl ⟨_, rfl, (by first | exact ((hS3.out.set3).below (bt (bal _ _) (bal _ _))).base (by omega) | exact ((hS3.out.set3).below (bt (bt (bal _ _) (bal _ _)) (Below.refl _ _).drew)).base (by omega)), (by first | exact al2b (set3b hs1.out (by omega)) _ _ | exact (al2b (set3b hs1.out (by omega)) _ _).drew)⟩
set_option maxHeartbeats 1000000 in
theorem work_any (h w c lo hi ot : Int) (oa : Option Addr) (on oc : Nat) (O : Nat → Nat → Int) (W : World) (hM : MRow W oa on oc O) :
    Calls Try.prog 19 #[.agg #[.int .i64 h, .int .i64 w, .int .i64 c, .int .i64 lo, .int .i64 hi, .slice oa on oc, .int .i64 ot]] W fun e w' => e = .returned (.tuple #[.int .i64 (gtR O h w c lo hi ot on).2.2.2, .agg #[.int .i64 (gtR O h w c lo hi ot on).1, .int .i64 (gtR O h w c lo hi ot on).2.1, .int .i64 0]]) ∧ Below W.heap.size W w' := by
  have hG : Hid (∀ W, MRow W oa on oc O → _) := fun W hW => gothrough_any h w c lo hi ot oa on oc O W hW
  obtain ⟨Re, Ra, RL, Rw, hR⟩ : ∃ Re Ra RL Rw, gtR O h w c lo hi ot on = (Re, Ra, RL, Rw) := ⟨_, _, _, _, rfl⟩
  rw [hR] at hG ⊢
  simp only
  have hM2 : Hid (MRow W oa on oc O) := hM
  clear hR hM
  go_enter Try.func19, Try.ntmps19
  go_wp2_with fail
  refine Calls.mono (hG.out _ (hM2.out.below (St.start W).new.new.below)) ?_
  rintro e w1 ⟨v, rfl, hS, hb⟩
  obtain ⟨va, vc, rfl⟩ := hS.slice
  have s1 := ((St.start W).new.new).call hb
  simp only [World.size_alloc] at s1
  obtain ⟨c1, f1, z1, c2, f2, z2, -⟩ := s1.rules
  have hS2 : Hid (Shp w1 W.heap.size (.slice va RL.length vc) RL) := hS.base (by simp; omega)
  have hs1 : Hid (Below W.heap.size W w1) := s1.below
  have hlt : Hid (∀ g, W.heap.size + 1 + 1 ≤ g → g ≠ W.heap.size + 1) := fun g hg => by omega
  have hS3 : Hid (Shp w1 (W.heap.size + 1 + 1) (.slice va RL.length vc) RL) := by unfold Hid; simpa using hS
  clear hb hS s1
  go_wp2
  go_region_law (fail)
  all_goals
    go_wp2
    exact bodyPost_ret (v := .tuple #[.int .i64 Rw, .agg #[.int .i64 Re, .int .i64 Ra, .int .i64 0]]) (by simp [results, Try.results19, go_sem, *]) rfl ⟨rfl, (by first | exact al2b (set3b hs1.out (by omega)) _ _ | exact (al2b (set3b hs1.out (by omega)) _ _).drew)⟩
end Go.Proofs.Ytcjnhchjikcigaa

/- Fronts of models in plain numbers; what is known of each op of a well-formed model; ops that came in. -/
namespace Go.Proofs.Ytcjnhchjikcigaa
open Go.ChangeShapes Go.WideShapes Go.ChangeAt Go.RowKit
set_option linter.unusedVariables false
theorem stG_step {O : Nat → Nat → Int} {s0 : Int × Int × Int} {n : Nat} {L : List (Int × Int × Int)} {wk : Int} (h : stG O s0 (n + 1) = (0, 0, L, wk)) :
    ∃ L0 wk0, stG O s0 n = (0, 0, L0, wk0) ∧ oT (O n) L0 wk0 = 0 ∧ L = L0 ++ [oM (O n) L0] ∧ wk = wk0 + oW (O n) L0 := by
  obtain ⟨e, t, L0, wk0, h0⟩ : ∃ e t L0 wk0, stG O s0 n = (e, t, L0, wk0) := ⟨_, _, _, _, rfl⟩
  by_cases he : e = 0
  · have ht : t = 0 := stG_at0 h0 he
    subst he ht
    by_cases hx : oT (O n) L0 wk0 = 0
    · rw [stG_ok h0 hx] at h
      simp only [Prod.mk.injEq, true_and] at h
      exact ⟨L0, wk0, h0, hx, h.1.symm, h.2.symm⟩
    · rw [stG_err h0 rfl hx] at h
      simp only [Prod.mk.injEq] at h
      exact absurd h.1 hx
  · have := stG_bad (O := O) (s0 := s0) (i := n) (by rw [h0]; exact he) 1
    rw [h, h0] at this
    simp only [Prod.mk.injEq] at this
    exact absurd this.1.symm he
theorem stG_pre {O : Nat → Nat → Int} {s0 : Int × Int × Int} (hs : vS3 s0 = true) : ∀ (n : Nat) (L : List (Int × Int × Int)) (wk : Int), stG O s0 n = (0, 0, L, wk) → ∀ i, i ≤ n → ∃ wi, stG O s0 i = (0, 0, L.take (i + 1), wi) ∧ 0 ≤ wi ∧ wi ≤ wk
  | 0, L, wk, h, i, hi => by
    obtain rfl : i = 0 := by omega
    obtain ⟨h1, -, h3, -⟩ := stG_inv hs 0 L wk h
    exact ⟨wk, by rw [List.take_of_length_le (by omega)]; exact h, h3, Int.le_refl _⟩
  | n + 1, L, wk, h, i, hi => by
    obtain ⟨h1, -, h3, -⟩ := stG_inv hs (n + 1) L wk h
    by_cases e : i = n + 1
    · subst e
      exact ⟨wk, by rw [List.take_of_length_le (by omega)]; exact h, h3, Int.le_refl _⟩
    · obtain ⟨L0, wk0, h0, hx, hL, hw⟩ := stG_step h
      obtain ⟨i1, i2, i3, i4⟩ := stG_inv hs n L0 wk0 h0
      obtain ⟨wi, g1, g2, g3⟩ := stG_pre hs n L0 wk0 h0 i (by omega)
      obtain ⟨-, t2, -, -⟩ := tk_0 hx i2
      have t2' : 0 ≤ oW (O n) L0 := t2
      refine ⟨wi, ?_, g2, by omega⟩
      rw [g1, hL, List.take_append_of_le_length (by omega)]
theorem stG_fault {O : Nat → Nat → Int} {s0 : Int × Int × Int} : ∀ (n : Nat) (e t : Int) (L : List (Int × Int × Int)) (wk : Int), stG O s0 n = (e, t, L, wk) → e ≠ 0 → L = [] ∧ wk = 0 ∧ ∃ j, j < n ∧ t = (j : Int) + 1 ∧ ∃ L' wk', stG O s0 j = (0, 0, L', wk')
  | 0, e, t, L, wk, h, he => by
    unfold stG at h
    simp only [Prod.mk.injEq] at h
    exact absurd h.1.symm he
  | n + 1, e, t, L, wk, h, he => by
    obtain ⟨e0, t0, L0, wk0, h0⟩ : ∃ e t L0 wk0, stG O s0 n = (e, t, L0, wk0) := ⟨_, _, _, _, rfl⟩
    by_cases hb : e0 = 0
    · have ht : t0 = 0 := stG_at0 h0 hb
      subst hb ht
      by_cases hx : oT (O n) L0 wk0 = 0
      · rw [stG_ok h0 hx] at h
        simp only [Prod.mk.injEq] at h
        exact absurd h.1.symm he
      · rw [stG_err h0 rfl hx] at h
        simp only [Prod.mk.injEq] at h
        exact ⟨h.2.2.1.symm, h.2.2.2.symm, n, by omega, h.2.1.symm, L0, wk0, h0⟩
    · have := stG_bad (O := O) (s0 := s0) (i := n) (by rw [h0]; exact hb) 1
      rw [h, h0] at this
      simp only [Prod.mk.injEq] at this
      obtain ⟨rfl, rfl, rfl, rfl⟩ := this
      obtain ⟨a1, a2, j, a3, a4⟩ := stG_fault n e t L wk h0 he
      exact ⟨a1, a2, j, by omega, a4⟩
theorem ouE_front {h w c lo hi ot : Int} {on j : Nat} (q : ouE h w c lo hi ot on = 0) (hj : j ≤ on) : ouE h w c lo hi (j : Int) j = 0 := by
  obtain ⟨a1, a2, a3, -, -⟩ := ouE_0 q
  unfold ouE
  rw [if_neg (by rw [a1]; decide), if_neg (by rw [a2]; decide), if_neg (by omega), if_neg (by omega)]
theorem gtR_of {O : Nat → Nat → Int} {h w c lo hi ot : Int} {on : Nat} (q : ouE h w c lo hi ot on = 0) : gtR O h w c lo hi ot on = stG O (h, w, c) on := by unfold gtR; rw [q, if_neg (by decide)]
/-- A model that isn't well-formed. -/
theorem gtR_err {O : Nat → Nat → Int} {h w c lo hi ot e t wk : Int} {on : Nat} {L : List (Int × Int × Int)} (q : gtR O h w c lo hi ot on = (e, t, L, wk)) (he : e ≠ 0) :
    L = [] ∧ wk = 0 ∧ (t = 0 ∨ ∃ j : Nat, j < on ∧ on ≤ 64 ∧ t = (j : Int) + 1 ∧ ∃ L' wk', gtR O h w c lo hi (j : Int) j = (0, 0, L', wk')) := by
  by_cases hx : ouE h w c lo hi ot on = 0
  · rw [gtR_of hx] at q
    obtain ⟨a1, a2, j, a3, a4, L', wk', a5⟩ := stG_fault on e t L wk q he
    exact ⟨a1, a2, .inr ⟨j, a3, (ouE_0 hx).2.2.1, a4, L', wk', by rw [gtR_of (ouE_front hx (by omega))]; exact a5⟩⟩
  · unfold gtR at q
    rw [if_pos hx] at q
    simp only [Prod.mk.injEq] at q
    exact ⟨q.2.2.1.symm, q.2.2.2.symm, .inl q.2.1.symm⟩
theorem gtR_st {O : Nat → Nat → Int} {h w c lo hi ot t wk : Int} {on : Nat} {L : List (Int × Int × Int)} (q : gtR O h w c lo hi ot on = (0, t, L, wk)) : ouE h w c lo hi ot on = 0 ∧ t = 0 ∧ stG O (h, w, c) on = (0, 0, L, wk) := by
  by_cases hx : ouE h w c lo hi ot on = 0
  · rw [gtR_of hx] at q
    have ht := stG_at0 q rfl
    subst ht
    exact ⟨hx, rfl, q⟩
  · unfold gtR at q
    rw [if_pos hx] at q
    simp only [Prod.mk.injEq] at q
    exact absurd q.1 hx
/-- A well-formed model, and its fronts. -/
theorem gtR_ok {O : Nat → Nat → Int} {h w c lo hi ot t wk : Int} {on : Nat} {L : List (Int × Int × Int)} (q : gtR O h w c lo hi ot on = (0, t, L, wk)) :
    t = 0 ∧ L.length = on + 1 ∧ on ≤ 64 ∧ 0 ≤ wk ∧ wk ≤ 131072 ∧ ∀ k : Nat, k ≤ on → ∃ wi, gtR O h w c lo hi (k : Int) k = (0, 0, L.take (k + 1), wi) ∧ 0 ≤ wi ∧ wi ≤ wk := by
  obtain ⟨hx, rfl, q2⟩ := gtR_st q
  clear q
  have q := q2
  have hv : vS3 (h, w, c) = true := (ouE_0 hx).1
  obtain ⟨h1, -, h3, h4⟩ := stG_inv hv on L wk q
  refine ⟨rfl, h1, (ouE_0 hx).2.2.1, h3, h4, fun k hk => ?_⟩
  obtain ⟨wi, g1, g2⟩ := stG_pre hv on L wk q k hk
  exact ⟨wi, by rw [gtR_of (ouE_front hx hk)]; exact g1, g2⟩
theorem mkE_parts {k m kh kw sh sw tp lf bt rt h w c : Int} (hx : mkE k m kh kw sh sw tp lf bt rt h w c = 0) : mkW k kh kw sh sw tp lf bt rt h w c = 0 := by
  unfold mkE at hx
  by_cases hM : mkM k m = false
  · rw [if_pos hM] at hx; cases hx
  · rw [if_neg hM] at hx
    by_cases hw : mkW k kh kw sh sw tp lf bt rt h w c ≠ 0
    · rw [if_pos hw] at hx; exact absurd hx hw
    · exact Decidable.not_not.1 hw
/-- What is known of one op's shapes: A's and its own. -/
def OpFit (k kh kw sh sw tp lf bt rt : Int) (A B : Int × Int × Int) : Prop :=
  vS B.1 B.2.1 B.2.2 = true ∧ (2 ≤ k ∧ k ≤ 5 → ouR A.1 A.2.1 A.2.2 kh kw sh sw tp lf bt rt = (B.1, B.2.1, 0) ∧ (k ≠ 2 → B.2.2 = A.2.2)) ∧ (6 ≤ k → B = A)
theorem fit_of {k m kh kw sh sw tp lf bt rt : Int} {A : Int × Int × Int} (hx : mkE k m kh kw sh sw tp lf bt rt A.1 A.2.1 A.2.2 = 0) (hv : vS3 (mk3 k m kh kw sh sw tp lf bt rt A) = true) : OpFit k kh kw sh sw tp lf bt rt A (mk3 k m kh kw sh sw tp lf bt rt A) := by
  refine ⟨hv, fun hk => ?_, fun hk => ?_⟩
  · have hw := mkE_parts hx
    unfold mkW at hw
    rw [if_pos hk] at hw
    obtain ⟨r, q, e, ho⟩ : ∃ r q e, ouR A.1 A.2.1 A.2.2 kh kw sh sw tp lf bt rt = (r, q, e) := ⟨_, _, _, rfl⟩
    rw [ho] at hw
    simp only at hw
    subst hw
    by_cases k2 : k = 2
    · have hm : mk3 k m kh kw sh sw tp lf bt rt A = (r, q, m) := by unfold mk3 mkS; rw [if_neg (by omega), if_pos k2, ho]
      rw [hm]
      exact ⟨ho, fun h => absurd k2 h⟩
    · have hm : mk3 k m kh kw sh sw tp lf bt rt A = (r, q, A.2.2) := by unfold mk3 mkS; rw [if_neg (by omega), if_neg k2, if_pos (by omega), ho]
      rw [hm]
      exact ⟨ho, fun _ => rfl⟩
  · unfold mk3 mkS
    rw [if_neg (by omega), if_neg (by omega), if_neg (by omega)]
theorem ShA_take {L : List (Int × Int × Int)} {i n : Nat} (h : i < n) : ShA (L.take n) (i : Int) = ShA L (i : Int) := by
  unfold ShA
  rw [Int.toNat_natCast]
  simp [List.getD, h]
/-- Each op of a well-formed model. -/
theorem gtR_at {O : Nat → Nat → Int} {h w c lo hi ot t wk : Int} {on : Nat} {L : List (Int × Int × Int)} (q : gtR O h w c lo hi ot on = (0, t, L, wk)) :
    ShA L ((0 : Nat) : Int) = (h, w, c) ∧ ∀ i, i < on → ∃ j : Nat, O i 1 = (j : Int) ∧ j ≤ i ∧ OpFit (O i 0) (O i 4) (O i 5) (O i 6) (O i 7) (O i 8) (O i 9) (O i 10) (O i 11) (ShA L (j : Int)) (ShA L ((i + 1 : Nat) : Int)) := by
  obtain ⟨hx, rfl, q2⟩ := gtR_st q
  clear q
  have q := q2
  have hv : vS3 (h, w, c) = true := (ouE_0 hx).1
  refine ⟨?_, fun i hi => ?_⟩
  · obtain ⟨wi, g1, -⟩ := stG_pre hv on L wk q 0 (by omega)
    unfold stG at g1
    simp only [Prod.mk.injEq, true_and] at g1
    rw [← ShA_take (n := 0 + 1) (by omega), ← g1.1]
    rfl
  · obtain ⟨wi, g1, -⟩ := stG_pre hv on L wk q (i + 1) (by omega)
    obtain ⟨L0, wk0, h0, hx0, hL, -⟩ := stG_step g1
    obtain ⟨w2, g2, -⟩ := stG_pre hv on L wk q i (by omega)
    rw [g2] at h0
    simp only [Prod.mk.injEq, true_and] at h0
    obtain ⟨rfl, rfl⟩ := h0
    obtain ⟨i1, i2, -⟩ := stG_inv hv i _ _ g2
    obtain ⟨t1, -, -, ⟨a0, a1⟩, -, t6⟩ := tk_0 hx0 i2
    obtain ⟨j, hj⟩ := Int.eq_ofNat_of_zero_le a0
    rw [hj] at a1 t1 t6
    refine ⟨j, hj, by omega, ?_⟩
    have e1 : ShA (L.take (i + 1)) (j : Int) = ShA L (j : Int) := ShA_take (by omega)
    have e2 : ShA L ((i + 1 : Nat) : Int) = mk3 (O i 0) (O i 3) (O i 4) (O i 5) (O i 6) (O i 7) (O i 8) (O i 9) (O i 10) (O i 11) (ShA L (j : Int)) := by
      rw [← ShA_take (n := i + 1 + 1) (by omega), hL]
      unfold ShA at e1 ⊢
      rw [Int.toNat_natCast]
      simp only [List.getD]
      rw [List.getElem?_append_right (by omega), i1, Nat.sub_self]
      unfold oM ShA
      rw [hj, Int.toNat_natCast]
      rw [Int.toNat_natCast] at e1
      simp only [List.getElem?_cons_zero, Option.getD_some]
      rw [e1]
      rfl
    rw [e1] at t1 t6
    rw [e2]
    exact fit_of t6 t1
/-! ### Ops that came in -/
def OpIn (w : World) (cs : List Value) : Prop :=
  ∃ (b0 : Int) (b1 : Int) (b2 : Int) (b3 : Int) (b4 : Int) (b5 : Int) (b6 : Int) (b7 : Int) (b8 : Int) (b9 : Int) (b10 : Int) (b11 : Int) (b12 : Option Addr) (l12 c12 : Nat) (z12 : List Int) (b13 : Option Addr) (l13 c13 : Nat) (z13 : List Int) (b14 : Int) (b15 : Int) (b16 : Int) (b17 : Int) (b18 : Int) (b19 : Int) (b20 : Int) (b21 : Int), cs = [.int .i64 b0, .int .i64 b1, .int .i64 b2, .int .i64 b3, .int .i64 b4, .int .i64 b5, .int .i64 b6, .int .i64 b7, .int .i64 b8, .int .i64 b9, .int .i64 b10, .int .i64 b11, .slice b12 l12 c12, .slice b13 l13 c13, .int .i64 b14, .int .i64 b15, .int .i64 b16, .int .i64 b17, .int .i64 b18, .int .i64 b19, .int .i64 b20, .int .i64 b21] ∧
    (Lit.int .i64 b0).wf = true ∧ (Lit.int .i64 b1).wf = true ∧ (Lit.int .i64 b2).wf = true ∧ (Lit.int .i64 b3).wf = true ∧ (Lit.int .i64 b4).wf = true ∧ (Lit.int .i64 b5).wf = true ∧ (Lit.int .i64 b6).wf = true ∧ (Lit.int .i64 b7).wf = true ∧ (Lit.int .i64 b8).wf = true ∧ (Lit.int .i64 b9).wf = true ∧ (Lit.int .i64 b10).wf = true ∧ (Lit.int .i64 b11).wf = true ∧
    IRow .i16 w b12 l12 c12 z12 ∧ l12 * 2 ≤ 140737488351232 ∧ IRow .i32 w b13 l13 c13 z13 ∧ l13 * 4 ≤ 140737488351232 ∧
    (Lit.int .i64 b14).wf = true ∧ (Lit.int .i64 b15).wf = true ∧ (Lit.int .i64 b16).wf = true ∧ (Lit.int .i64 b17).wf = true ∧ (Lit.int .i64 b18).wf = true ∧ (Lit.int .i64 b19).wf = true ∧ (Lit.int .i64 b20).wf = true ∧ (Lit.int .i64 b21).wf = true
/-- One op in memory, with its lists. -/
def LOp (w : World) (x : Addr) (o : Nat → Int) (z b : List Int) : Prop :=
  ∃ (wa : Option Addr) (lw cw : Nat) (ba : Option Addr) (lb cb : Nat), o 12 = (lw : Int) ∧ o 13 = (lb : Int) ∧ (∀ j v, (opl o wa lw cw ba lb cb)[j]? = some v → w.cell? (x.add j) = some v) ∧ IRow .i16 w wa lw cw z ∧ IRow .i32 w ba lb cb b ∧ lw * 2 ≤ 140737488351232 ∧ lb * 4 ≤ 140737488351232
/-- Ops in memory, with their lists. -/
def LRow (w : World) (oa : Option Addr) (on oc : Nat) (O : Nat → Nat → Int) (Z B : Nat → List Int) : Prop :=
  on ≤ oc ∧ oc ≤ maxLen ∧ (oa = none → oc = 0) ∧ ∀ x, oa = some x → ∀ i, i < on → LOp w (x.add (i * 22)) (O i) (Z i) (B i)
theorem LRow.m {w : World} {oa : Option Addr} {on oc : Nat} {O : Nat → Nat → Int} {Z B : Nat → List Int} (h : LRow w oa on oc O Z B) : MRow w oa on oc O :=
  ⟨h.1, h.2.1, h.2.2.1, fun x hx i hi => by
    obtain ⟨wa, lw, cw, ba, lb, cb, h1, h2, h3, -⟩ := h.2.2.2 x hx i hi
    exact ⟨wa, lw, cw, ba, lb, cb, h1, h2, fun j v hj => by rw [← Addr.add_add]; exact h3 j v hj⟩⟩
theorem LOp.below {w w' : World} {x : Addr} {o : Nat → Int} {z b : List Int} (h : LOp w x o z b) (g : Below w.heap.size w w') : LOp w' x o z b := by
  obtain ⟨wa, lw, cw, ba, lb, cb, h1, h2, h3, h4, h5, h6⟩ := h
  exact ⟨wa, lw, cw, ba, lb, cb, h1, h2, fun j v hj => (g.cell (World.block_lt_of_cell? w _ (h3 j v hj))).trans (h3 j v hj), h4.below g, h5.below g, h6⟩
theorem LRow.below {w w' : World} {oa : Option Addr} {on oc : Nat} {O : Nat → Nat → Int} {Z B : Nat → List Int} (h : LRow w oa on oc O Z B) (g : Below w.heap.size w w') : LRow w' oa on oc O Z B :=
  ⟨h.1, h.2.1, h.2.2.1, fun x hx i hi => (h.2.2.2 x hx i hi).below g⟩
def oL (b0 b1 b2 b3 b4 b5 b6 b7 b8 b9 b10 b11 b12 b13 b14 b15 b16 b17 b18 b19 b20 b21 : Int) (j : Nat) : Int := [b0, b1, b2, b3, b4, b5, b6, b7, b8, b9, b10, b11, b12, b13, b14, b15, b16, b17, b18, b19, b20, b21].getD j 0
theorem lop_of {w : World} {x : Addr} {cs : List Value} (h : OpIn w cs) (hc : ∀ j, j < 22 → w.cell? (x.add j) = cs[j]?) : ∃ o z b, LOp w x o z b := by
  obtain ⟨b0, b1, b2, b3, b4, b5, b6, b7, b8, b9, b10, b11, b12, l12, c12, z12, b13, l13, c13, z13, b14, b15, b16, b17, b18, b19, b20, b21, rfl, -, -, -, -, -, -, -, -, -, -, -, -, h1, h2, h3, h4, -⟩ := h
  refine ⟨oL b0 b1 b2 b3 b4 b5 b6 b7 b8 b9 b10 b11 l12 l13 b14 b15 b16 b17 b18 b19 b20 b21, z12, z13, b12, l12, c12, b13, l13, c13, rfl, rfl, fun j v hj => ?_, h1, h3, h2, h4⟩
  have hj' : j < 22 := (List.getElem?_eq_some_iff.1 hj).1
  rw [hc j hj', ← hj]
  rfl
theorem lrow_of {w : World} {oa : Option Addr} {on oc : Nat} (h : ORow 22 (OpIn w) w oa on oc) : ∃ O Z B, LRow w oa on oc O Z B := by
  obtain ⟨h1, h2, h3, h4⟩ := h
  cases oa with
  | none => exact ⟨fun _ _ => 0, fun _ => [], fun _ => [], h1, h2, h3, fun x hx => by cases hx⟩
  | some x =>
    have q : ∀ i, ∃ y : (Nat → Int) × List Int × List Int, i < on → LOp w (x.add (i * 22)) y.1 y.2.1 y.2.2 := by
      intro i
      by_cases hi : i < on
      · obtain ⟨cs, -, g1, g2⟩ := h4 x rfl i hi
        obtain ⟨o, z, b, g⟩ := lop_of (x := x.add (i * 22)) g1 (fun j hj => by rw [Addr.add_add]; exact g2 j hj)
        exact ⟨(o, z, b), fun _ => g⟩
      · exact ⟨(fun _ => 0, [], []), fun h => absurd h hi⟩
    obtain ⟨f, hf⟩ := Classical.skolem.1 q
    exact ⟨fun i => (f i).1, fun i => (f i).2.1, fun i => (f i).2.2, h1, h2, h3, fun y hy i hi => by cases hy; exact hf i hi⟩
end Go.Proofs.Ytcjnhchjikcigaa

/- same and front of law08: what each returns. -/
namespace Go.Proofs.Ytcjnhchjikcigaa
open Go.ChangeShapes Go.WideShapes Go.ChangeAt Go.RowKit
set_option linter.unusedVariables false
/-- A slice of shapes. -/
def SV (w : World) (v : Value) (L : List (Int × Int × Int)) : Prop :=
  ∃ a cap, v = .slice a L.length cap ∧ L.length ≤ cap ∧ cap ≤ maxLen ∧ (0 < L.length → ∃ g, a = some ⟨g, 0, none⟩ ∧ ∀ i, i < L.length →
    w.cell? ⟨g, i * 3, none⟩ = some (.int .i64 (L.getD i (0, 0, 0)).1) ∧ w.cell? ⟨g, i * 3 + 1, none⟩ = some (.int .i64 (L.getD i (0, 0, 0)).2.1) ∧ w.cell? ⟨g, i * 3 + 2, none⟩ = some (.int .i64 (L.getD i (0, 0, 0)).2.2))
theorem SV.below {w w' : World} {v : Value} {L : List (Int × Int × Int)} (h : SV w v L) (q : Below w.heap.size w w') : SV w' v L := by
  obtain ⟨a, cap, h1, h2, h3, h4⟩ := h
  refine ⟨a, cap, h1, h2, h3, fun h0 => ?_⟩
  obtain ⟨g, e, hc⟩ := h4 h0
  refine ⟨g, e, fun i hi => ?_⟩
  obtain ⟨c1, c2, c3⟩ := hc i hi
  exact ⟨(q.cell (World.block_lt_of_cell? w _ c1)).trans c1, (q.cell (World.block_lt_of_cell? w _ c2)).trans c2, (q.cell (World.block_lt_of_cell? w _ c3)).trans c3⟩
theorem sv_cu {w : World} {g cap : Nat} {cur : Array Value} {T : TypeId} {L M : List (Int × Int × Int)} (h : w.heap[g]? = some (.cells cur T (0, 0))) (hC : Cu cur cap L) (hm : cap ≤ maxLen) (n : Nat) (hn : n ≤ L.length) (hM : M = L.take n) : SV w (.slice (some ⟨g, 0, none⟩) n cap) M := by
  have hl : M.length = n := by rw [hM, List.length_take]; omega
  have hc := hC.2.1
  refine ⟨some ⟨g, 0, none⟩, cap, by rw [hl], by omega, hm, fun _ => ⟨g, rfl, fun i hi => ?_⟩⟩
  obtain ⟨a1, a2, a3⟩ := hC.at (i := i) (by omega)
  have e : M.getD i (0, 0, 0) = L.getD i (0, 0, 0) := by rw [hM]; simp [List.getD, show i < n by omega]
  rw [e]
  simp only [(cells_at h).1]
  exact ⟨a1, a2, a3⟩
theorem Shp.sv {w : World} {base : Nat} {v : Value} {L : List (Int × Int × Int)} (h : Shp w base v L) : SV w v L := by
  rcases h with ⟨rfl, rfl⟩ | ⟨g, cap, cur, rfl, h2, h3, h4, h5⟩
  · exact ⟨none, 0, rfl, Nat.le_refl _, by unfold maxLen; omega, fun h => by cases h⟩
  · exact sv_cu h3 h4 (by unfold maxLen; omega) L.length (Nat.le_refl _) (by simp)
theorem l3_step {xs ys : List (Int × Int × Int)} {k : Nat} {c d : Int × Int × Int} (kx : xs.getD k (0, 0, 0) = c) (ky : ys.getD k (0, 0, 0) = d) (hx : k < xs.length) (hy : k < ys.length) (he : xs.take k = ys.take k) : (c = d → xs.take (k + 1) = ys.take (k + 1)) ∧ (c ≠ d → decide (xs = ys) = false) := by
  rw [List.getD_eq_getElem?_getD, List.getElem?_eq_getElem hx, Option.getD_some] at kx
  rw [List.getD_eq_getElem?_getD, List.getElem?_eq_getElem hy, Option.getD_some] at ky
  constructor
  · intro h
    rw [List.take_add_one, List.take_add_one, he, List.getElem?_eq_getElem hx, List.getElem?_eq_getElem hy, kx, ky, h]
  · intro h
    refine decide_eq_false fun e => h ?_
    subst e
    rw [← kx, ← ky]
theorem l3_end {xs ys : List (Int × Int × Int)} {k n : Nat} (hx : xs.length = n) (hy : ys.length = n) (hk : n ≤ k) (he : xs.take k = ys.take k) : decide (xs = ys) = true := by
  rw [List.take_of_length_le (by omega), List.take_of_length_le (by omega)] at he
  exact decide_eq_true he
theorem retb {a b : Bool} (h : a = b) : Ending.returned (.bool a) = .returned (.bool b) := by rw [h]
/-! ### front -/
theorem St.grown {w0 w w' : World} {l : List (Nat × Array Value × TypeId)} {row : Option Nat} (h : St w0 w l) (g : w.grownBy w' row) (hr : ∀ k, row = some k → w0.heap.size ≤ k) (hl : ∀ x ∈ l, some x.1 ≠ row) : St w0 w' l :=
  ⟨h.1.grown g h.1.size hr, fun x hx => ⟨by rw [g.block _ (lt_of_heap (h.2 x hx).1) (hl x hx)]; exact (h.2 x hx).1, (h.2 x hx).2⟩⟩
/-- The cells that lie there. -/
def mc (w : World) (x : Addr) (n : Nat) : List Value := (List.range n).map fun q => (w.cell? (x.add q)).getD (.bool false)
theorem mc_len (w : World) (x : Addr) (n : Nat) : (mc w x n).length = n := by simp [mc]
theorem mc_at {w : World} {x : Addr} {n q : Nat} {v : Value} (h : q < n) (hc : w.cell? (x.add q) = some v) : (mc w x n)[q]? = some v := by simp [mc, h, hc]
theorem opl_len (o : Nat → Int) (wa : Option Addr) (lw cw : Nat) (ba : Option Addr) (lb cb : Nat) : (opl o wa lw cw ba lb cb).length = 22 := rfl
theorem opl_one (o : Nat → Int) (wa : Option Addr) (lw cw : Nat) (ba : Option Addr) (lb cb : Nat) : ∀ v ∈ opl o wa lw cw ba lb cb, v.oneCell' = true := by simp [opl, Value.oneCell']
theorem MRow.cell {w : World} {x : Addr} {on oc : Nat} {O : Nat → Nat → Int} (h : MRow w (some x) on oc O) {q : Nat} (hq : q < on * 22) : ∃ v, w.cell? (x.add q) = some v ∧ v.oneCell' = true := by
  obtain ⟨wa, lw, cw, ba, lb, cb, -, -, h3⟩ := h.2.2.2 x rfl (q / 22) (by omega)
  have hj : q % 22 < (opl (O (q / 22)) wa lw cw ba lb cb).length := by rw [opl_len]; omega
  have := h3 (q % 22) _ (List.getElem?_eq_getElem hj)
  rw [show q / 22 * 22 + q % 22 = q by omega] at this
  exact ⟨_, this, opl_one _ _ _ _ _ _ _ _ (List.getElem_mem hj)⟩
theorem mc_of {w : World} {x : Addr} {on oc k : Nat} {O : Nat → Nat → Int} (h : MRow w (some x) on oc O) (hk : k ≤ on) : (∀ j u, (mc w x (k * 22))[j]? = some u → w.cell? (x.add j) = some u) ∧ ∀ u ∈ mc w x (k * 22), u.oneCell' = true := by
  constructor
  · intro j u hj
    have hj' : j < k * 22 := by have := (List.getElem?_eq_some_iff.1 hj).1; rwa [mc_len] at this
    obtain ⟨v, hv, -⟩ := h.cell (q := j) (by omega)
    rw [mc_at hj' hv] at hj
    rw [hv, hj]
  · intro u hu
    obtain ⟨j, hj⟩ := List.getElem?_of_mem hu
    have hj' : j < k * 22 := by have := (List.getElem?_eq_some_iff.1 hj).1; rwa [mc_len] at this
    obtain ⟨v, hv, h1⟩ := h.cell (q := j) (by omega)
    rw [mc_at hj' hv] at hj
    cases hj
    exact h1
theorem mrow_copy {w w' : World} {x : Addr} {on oc k base : Nat} {v : Value} {O : Nat → Nat → Int} (h : MRow w (some x) on oc O) (hk : k ≤ on) (hown : w'.ownsRow base 70 22 v k (mc w x (k * 22))) (hv : v ≠ .slice none 0 0) :
    ∃ g cap cur, v = .slice (some ⟨g, 0, none⟩) k cap ∧ base ≤ g ∧ w'.heap[g]? = some (.cells cur 70 (0, 0)) ∧ MRow w' (some ⟨g, 0, none⟩) k cap O := by
  rcases hown.2 with ⟨h0, -⟩ | ⟨g, cap, cur, h1, h2, h3, h4, h5, h6, h7⟩
  · exact absurd h0 hv
  · refine ⟨g, cap, cur, h1, h2, h3, h4, h5, fun q => (by cases q), fun y hy i hi => ?_⟩
    cases hy
    obtain ⟨wa, lw, cw, ba, lb, cb, e1, e2, e3⟩ := h.2.2.2 x rfl i (by omega)
    refine ⟨wa, lw, cw, ba, lb, cb, e1, e2, fun j u hj => ?_⟩
    have hj' : j < 22 := (List.getElem?_eq_some_iff.1 hj).1
    exact hown.cells (by rw [h1]; rfl) _ _ (mc_at (by omega) (e3 j u hj))
theorem MRow.heap {w w' : World} {g k cap : Nat} {O : Nat → Nat → Int} (h : MRow w (some ⟨g, 0, none⟩) k cap O) (e : w'.heap[g]? = w.heap[g]?) : MRow w' (some ⟨g, 0, none⟩) k cap O :=
  ⟨h.1, h.2.1, h.2.2.1, fun x hx i hi => by
    obtain ⟨wa, lw, cw, ba, lb, cb, h1, h2, h3⟩ := h.2.2.2 x hx i hi
    exact ⟨wa, lw, cw, ba, lb, cb, h1, h2, fun j v hj => (World.cell?_of_block (by rw [add_block]; cases hx; exact e)).trans (h3 j v hj)⟩⟩
theorem ne_of_ty {w : World} {a b : Nat} {c d : Array Value} {t u : TypeId} (h : w.heap[a]? = some (.cells c t (0, 0))) (k : w.heap[b]? = some (.cells d u (0, 0))) (q : t ≠ u) : a ≠ b := fun e => by
  subst e
  rw [h] at k
  simp only [Option.some.injEq, Obj.cells.injEq] at k
  exact q k.2.1
end Go.Proofs.Ytcjnhchjikcigaa
