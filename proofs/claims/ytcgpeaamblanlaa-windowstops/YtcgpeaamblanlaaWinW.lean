/- Three slices that a call collects side by side, in variables of their own; marks of loops over iterators; counting. -/
import Derived.Test.YtcgpeaamblanlaaWinL
import Derived.Maps.AppendAt
namespace Go.Proofs.Ytcgpeaamblanlaa
open Go.ChangeShapes Go.WideShapes Go.ChangeAt Go.RowKit Go.Shelf
/-- 'append' within a round, and where the answer lies. -/
theorem wpListIn_app_at {F : Fence} {n : Nat} (w : World) {ops : Array Oper} {rest : List Oper} {o : Oper} {a : Act} {Q : Exit → Act → World → Prop}
    (hg : o.guard = none) (s x : Operand) (hop : o.op = Op.call { callee := Callee.builtin Builtin.append, args := #[s, x], argTypes := #[34, 34] })
    (base : Nat) (v : Value) (k : Nat) (xs : List Value) (hs : a.eval s = v) (hown : w.ownsRow base 3 1 v k xs) (ad : Addr) (p q : Int) (hx : a.eval x = .slice (some ad) 2 2)
    (hc : ∀ j u, [Value.int .i64 p, .int .i64 q][j]? = some u → w.cell? (ad.add j) = some u) (b1 : k + 2 ≤ 10000000) (b3 : base ≤ w.heap.size)
    (hK : ∀ v' w', w'.ownsRow base 3 1 v' (k + 2) (xs ++ [.int .i64 p, .int .i64 q]) → w.grownBy w' v.ownBlock → (v'.ownBlock = v.ownBlock ∨ v'.ownBlock = some w.heap.size) → wpListIn F n Try.prog ops Q rest (a.put o.dst v') w') :
    wpListIn F n Try.prog ops Q (o :: rest) a w := by
  obtain ⟨i0, hi, hz0, hz1, hz2⟩ := info_parts Try.infoI
  refine wpListIn_plain hg fun K hK' => ?_
  obtain ⟨v', w', hrun, r1, r2, -, r4⟩ := run_append_own_at (P := Try.prog) w base 34 o.type 3 i0 (.int .i64 0) 1 8 Try.underlying34 hi hz0 hz1 hz2 rfl (by decide) v k xs hown ad 2 2 [.int .i64 p, .int .i64 q] rfl hc (by simp [Value.oneCell']) (by unfold maxLen; omega) (by omega) b3
  unfold Oper.wpIn
  refine ⟨?_, ?_⟩
  · simp [Oper.about, hop, resolve, Target.leads, Sem.run_pure]
  · rw [Oper.semAt_plain F _ _ (by rw [hop]; intro c hc'; cases hc')]
    simp [execOp, hop, resolve, invoke, builtin, hs, hx, hrun, Result.andThen]
    exact hK' _ _ (hK v' w' r1 r2 r4)
theorem ownsRow_two {W : World} {base : Nat} {e : TypeId} {size : Nat} {v : Value} {xs : List Value} (h : W.ownsRow base e size v 2 xs) : ∃ g cap, v = .slice (some ⟨g, 0, none⟩) 2 cap := ownsRow_succ h
/-- A slice of pairs that the call owns. -/
def Pr (W : World) (s : Nat) (v : Value) (l : List (Int × Int)) : Prop := W.ownsRow s 3 1 v (2 * l.length) ((flat l).map (Value.int .i64))
/-- They lie apart. -/
def Apt (u v : Value) : Prop := ∀ g, u.ownBlock = some g → v.ownBlock ≠ some g
theorem Apt.symm {u v : Value} (h : Apt u v) : Apt v u := fun g hv hu => h g hu hv
theorem Apt.nil (u : Value) : Apt u (.slice none 0 0) := fun _ _ h => by simp [Value.ownBlock] at h
theorem Pr.own {W : World} {s : Nat} {v : Value} {l : List (Int × Int)} (h : Pr W s v l) : Own W s v (flat l) := by unfold Own; rw [flat_len]; exact h
theorem Pr.nil (W : World) (s : Nat) : Pr W s (.slice none 0 0) [] := World.ownsRow_nil _ _ _ _
theorem Pr.kept {W W' : World} {s : Nat} {v : Value} {l : List (Int × Int)} {row : Option Nat} (h : Pr W s v l) (k : W.grownBy W' row) (hr : ∀ g, v.ownBlock = some g → row ≠ some g) : Pr W' s v l := by
  refine World.ownsRow.kept h k ?_
  rcases h.2 with ⟨rfl, _⟩ | ⟨g, cap, cur, rfl, _⟩
  · exact .inl rfl
  · exact .inr fun e => hr g rfl (by rw [← e]; rfl)
theorem Pr.lt {W : World} {s : Nat} {v : Value} {l : List (Int × Int)} (h : Pr W s v l) {g : Nat} (hg : v.ownBlock = some g) : s ≤ g ∧ g < W.heap.size ∧ ∃ cur, W.heap[g]? = some (.cells cur 3 (0, 0)) := by
  rcases h.2 with ⟨rfl, _⟩ | ⟨g', cap, cur, rfl, hs, hb, _⟩
  · simp [Value.ownBlock] at hg
  · obtain rfl : g' = g := by simpa [Value.ownBlock] using hg
    exact ⟨hs, lt_of_heap hb, cur, hb⟩
theorem Pr.turn {W W' : World} {s : Nat} {v : Value} {l : List (Int × Int)} {row : Option Nat} (h : Pr W s v l) (k : W.grownBy W' row) (hr : ∀ r, row = some r → ∃ o : Obj, W.heap[r]? = some o ∧ o.isCells = false) : Pr W' s v l :=
  h.kept k fun g hg e => by
    obtain ⟨_, _, cur, hc⟩ := h.lt hg
    obtain ⟨o, ho, hn⟩ := hr g e
    rw [hc] at ho; cases ho; cases hn
theorem Boxed.turn {W W' : World} {B : Nat} {t : TypeId} {v : Value} {row : Option Nat} (h : Boxed W B t v) (k : W.grownBy W' row) (hr : ∀ r, row = some r → ∃ o : Obj, W.heap[r]? = some o ∧ o.isCells = false) : Boxed W' B t v :=
  Go.Boxed.kept h k fun e => by
    obtain ⟨o, ho, hn⟩ := hr B e.symm
    rw [show W.heap[B]? = _ from h] at ho; cases ho; cases hn
/-- Three variables, three slices of pairs apart from one another; what lay in w6 lies. -/
def L3 (s : Nat) (w6 : World) (B1 B2 B3 : Nat) (l1 l2 l3 : List (Int × Int)) (W : World) : Prop :=
  ∃ v1 v2 v3, Boxed W B1 34 v1 ∧ Boxed W B2 34 v2 ∧ Boxed W B3 34 v3 ∧ Pr W s v1 l1 ∧ Pr W s v2 l2 ∧ Pr W s v3 l3 ∧ (Apt v1 v2 ∧ Apt v1 v3 ∧ Apt v2 v3) ∧ Below s w6 W
theorem L3.swap12 {s : Nat} {w6 : World} {B1 B2 B3 : Nat} {l1 l2 l3 : List (Int × Int)} {W : World} (h : L3 s w6 B1 B2 B3 l1 l2 l3 W) : L3 s w6 B2 B1 B3 l2 l1 l3 W := by
  obtain ⟨v1, v2, v3, a1, a2, a3, r1, r2, r3, ⟨p1, p2, p3⟩, hb⟩ := h
  exact ⟨v2, v1, v3, a2, a1, a3, r2, r1, r3, ⟨p1.symm, p3, p2⟩, hb⟩
theorem L3.swap13 {s : Nat} {w6 : World} {B1 B2 B3 : Nat} {l1 l2 l3 : List (Int × Int)} {W : World} (h : L3 s w6 B1 B2 B3 l1 l2 l3 W) : L3 s w6 B3 B2 B1 l3 l2 l1 W := by
  obtain ⟨v1, v2, v3, a1, a2, a3, r1, r2, r3, ⟨p1, p2, p3⟩, hb⟩ := h
  exact ⟨v3, v2, v1, a3, a2, a1, r3, r2, r1, ⟨p3.symm, p2.symm, p1.symm⟩, hb⟩
theorem L3.turn {s hi : Nat} {w6 : World} {B1 B2 B3 : Nat} {l1 l2 l3 : List (Int × Int)} {W W' : World} {row : Option Nat} (hs : s ≤ hi) (h : L3 s w6 B1 B2 B3 l1 l2 l3 W) (k : W.grownBy W' row) (hr : ∀ r, row = some r → hi ≤ r ∧ ∃ o : Obj, W.heap[r]? = some o ∧ o.isCells = false) (hz : s ≤ w6.heap.size) : L3 s w6 B1 B2 B3 l1 l2 l3 W' := by
  obtain ⟨v1, v2, v3, a1, a2, a3, r1, r2, r3, hp, hb⟩ := h
  have hn : ∀ r, row = some r → ∃ o : Obj, W.heap[r]? = some o ∧ o.isCells = false := fun r e => (hr r e).2
  exact ⟨v1, v2, v3, Boxed.turn a1 k hn, Boxed.turn a2 k hn, Boxed.turn a3 k hn, r1.turn k hn, r2.turn k hn, r3.turn k hn, hp, hb.grown k (Nat.le_trans hz hb.size) fun r e => Nat.le_trans hs (hr r e).1⟩
theorem L3.call {s : Nat} {w6 : World} {B1 B2 B3 : Nat} {l1 l2 l3 : List (Int × Int)} {W W' : World} (h : L3 s w6 B1 B2 B3 l1 l2 l3 W) (k : Below W.heap.size W W') (hz : s ≤ w6.heap.size) : L3 s w6 B1 B2 B3 l1 l2 l3 W' :=
  h.turn (Nat.le_refl _) (grownBy_of_below k) (fun r e => by cases e) hz
/-- Behind 'one = append(one, x, y)': the first grows, the others stay. -/
theorem app3 {s : Nat} {w6 : World} {B1 B2 B3 : Nat} {l1 l2 l3 : List (Int × Int)} {W w1 : World} {v1 v2 v3 v' : Value} {x : Int × Int} {tmp : Obj} (hz : s ≤ w6.heap.size) (hB : s ≤ B1) (hne : B1 ≠ B2 ∧ B1 ≠ B3)
    (a1 : Boxed W B1 34 v1) (a2 : Boxed W B2 34 v2) (a3 : Boxed W B3 34 v3) (r1 : Pr W s v1 l1) (r2 : Pr W s v2 l2) (r3 : Pr W s v3 l3) (hp : Apt v1 v2 ∧ Apt v1 v3 ∧ Apt v2 v3) (hb : Below s w6 W)
    (hown' : w1.ownsRow s 3 1 v' (2 * l1.length + 2) ((flat l1).map (Value.int .i64) ++ [.int .i64 x.1, .int .i64 x.2])) (hgrow : (W.alloc tmp).grownBy w1 v1.ownBlock) (hat : v'.ownBlock = v1.ownBlock ∨ v'.ownBlock = some (W.alloc tmp).heap.size) :
    Boxed w1 B1 34 v1 ∧ KeepsOthers W (w1.setCell ⟨B1, 0, none⟩ v') ∧ Below s W (w1.setCell ⟨B1, 0, none⟩ v') ∧ L3 s w6 B1 B2 B3 (l1 ++ [x]) l2 l3 (w1.setCell ⟨B1, 0, none⟩ v') ∧ (∀ b t u, b < s → Boxed W b t u → Boxed w1 b t u) := by
  have hsW : s ≤ W.heap.size := Nat.le_trans hz hb.size
  obtain ⟨q1, q2, q3, q4, q5, q6, -, q8⟩ := appended (lo := s) (n0 := s) a1 r1 hsW ⟨hB, .inr hB⟩ (Nat.le_refl _) hown' hgrow
  have hrow : ∀ (v : Value) (l : List (Int × Int)), Pr W s v l → Apt v1 v → Pr (w1.setCell ⟨B1, 0, none⟩ v') s v l ∧ Apt v' v := fun v l hr ha => by
    have e1 : Pr (W.alloc tmp) s v l := World.ownsRow.alloc hr _
    have e2 : Pr w1 s v l := e1.kept hgrow fun g hg e => ha g e hg
    refine ⟨e2.kept (grownBy_setCell' w1 B1 v') fun g hg e => ?_, fun g hv' hg => ?_⟩
    · obtain rfl : B1 = g := by simpa using e
      obtain ⟨_, _, cur, hc⟩ := e2.lt hg
      rw [show w1.heap[B1]? = _ from q1] at hc
      simp at hc
    · have hl := (hr.lt hg).2.1
      rcases hat with h | h
      · rw [h] at hv'; exact ha g hv' hg
      · rw [h, World.size_alloc] at hv'
        have := Option.some.inj hv'
        omega
  obtain ⟨e2, f2⟩ := hrow v2 l2 r2 hp.1
  obtain ⟨e3, f3⟩ := hrow v3 l3 r3 hp.2.1
  refine ⟨q1, q4, q6, ⟨_, v2, v3, q2, q8 _ _ _ (Ne.symm hne.1) (by decide) a2, q8 _ _ _ (Ne.symm hne.2) (by decide) a3, ?_, e2, e3, ⟨f2, f3, hp.2.2⟩, hb.trans q6⟩, fun b t u hlt hbx => (hbx.alloc tmp).kept hgrow fun e => by have := (r1.lt e.symm).1; omega⟩
  unfold Pr
  rw [flat_snoc, List.map_append, List.length_append, List.length_singleton, Nat.mul_add]
  exact q3
/-- What is in the second slice. -/
def T1 (pre ys : List (Int × Int)) : List (Int × Int) := if pre = [] then [] else ys
def T2 (m : Nat) (ys : List (Int × Int)) : List (Int × Int) := if m = 0 then [] else ys
theorem T1_nil (ys : List (Int × Int)) : T1 [] ys = [] := if_pos rfl
theorem T1_cons {pre ys : List (Int × Int)} (h : pre ≠ []) : T1 pre ys = ys := if_neg h
theorem T2_of {m : Nat} {pre ys : List (Int × Int)} (h : pre.length = m) : T2 m ys = T1 pre ys := by
  unfold T1 T2
  by_cases e : pre = []
  · rw [if_pos e, if_pos (by rw [← h, e]; rfl)]
  · rw [if_neg e, if_neg (fun h0 => e (List.eq_nil_of_length_eq_zero (by omega)))]
theorem T1_all (ys : List (Int × Int)) : T1 ys ys = ys := by
  by_cases e : ys = []
  · rw [e, T1_nil]
  · rw [T1_cons e]
theorem T2_all {m : Nat} {ys : List (Int × Int)} (h : ys.length ≤ m) : T2 m ys = ys := by
  unfold T2
  by_cases e : m = 0
  · rw [if_pos e, List.eq_nil_of_length_eq_zero (show ys.length = 0 by omega)]
  · rw [if_neg e]
theorem T2_pos {m : Nat} {ys : List (Int × Int)} (h : 0 < m) : T2 m ys = ys := if_neg (by omega)
/-- Marks of loops, each with nothing to do. -/
def Marks (W : World) (l : List Nat) : Prop := ∀ D ∈ l, W.heap[D]? = some (.deferred (some []))
theorem Marks.turn {W W' : World} {l : List Nat} {hi : Nat} {row : Option Nat} (h : Marks W l) (k : W.grownBy W' row) (hr : ∀ r, row = some r → hi ≤ r) (hl : ∀ D ∈ l, D < hi) : Marks W' l := fun D hD => by
  have h1 := h D hD
  rw [k.block D (lt_of_heap h1) (fun e => by have := hr D e.symm; have := hl D hD; omega)]
  exact h1
theorem Marks.call {W W' : World} {l : List Nat} (h : Marks W l) (k : Below W.heap.size W W') : Marks W' l := fun D hD => (k.block D (lt_of_heap (h D hD))).trans (h D hD)
theorem Marks.keeps {W W' : World} {l : List Nat} (h : Marks W l) (k : KeepsOthers W W') : Marks W' l := fun D hD => k.same D _ (h D hD) rfl
theorem Marks.cons {W : World} {l : List Nat} {D : Nat} (h : Marks W l) (hD : W.heap[D]? = some (.deferred (some []))) : Marks W (D :: l) := fun E hE => by
  rcases List.mem_cons.1 hE with rfl | hE
  · exact hD
  · exact h E hE
def markOf (D : Nat) : Deferred := { target := .collected D, args := #[] }
/-- A function leaves with its marks. -/
theorem leave_marks {F : Fence} {n : Nat} {fn : Func} {tmps : Array Value} {R : Ending → World → Prop} {s : Nat} : ∀ (l : List Nat) (W : World), Marks W l → l.Pairwise (· ≠ ·) → (∀ D ∈ l, s ≤ D) →
    (∀ W', Below s W W' → LeavesInM F n Try.prog fn tmps R [] .returning W') → s ≤ W.heap.size → LeavesInM F n Try.prog fn tmps R (l.map markOf) .returning W
  | [], W, _, _, _, h, _ => h W (Below.refl _ _)
  | D :: l, W, hm, hp, hs, h, hz => by
    have hD := hm D List.mem_cons_self
    have hb : Below s W (W.putObj D (.deferred none)) := (Below.refl s W).grown (grownBy_putObj' W D _) hz (fun k e => by cases e; exact hs D List.mem_cons_self)
    refine ⟨by simp, .inl ⟨_, _, rfl, run_takeDeferred hD, ?_⟩⟩
    have hp' := List.pairwise_cons.1 hp
    refine leave_marks l _ (fun E hE => ?_) hp'.2 (fun E hE => hs E (List.mem_cons_of_mem _ hE)) (fun W' hW' => h W' (hb.trans hW')) (Nat.le_trans hz hb.size)
    rw [World.putObj_heap_other (Ne.symm (hp'.1 E hE))]
    exact hm E (List.mem_cons_of_mem _ hE)
/-- A loop over an iterator, at the top of a function. -/
theorem range_it {g : Operand} {ps : Array Tmp} {assign body : Code} {Q : Exit → Act → World → Prop} {a : Act} {w : World} {n lo hi : Nat} {v : Value} {ys : List (Int × Int)} (it : It lo hi w v ys) (hg : a.eval g = v) (hps : ps.size = 2) (hn : 1 ≤ n)
    (I : List (Int × Int) → World → Prop) (Ix : Code → List (Int × Int) → World → Prop) (hI : OwnFrom w.heap.size I) (hIx : ∀ c, OwnFrom w.heap.size (Ix c)) (h0 : I [] w) (a₁ : Int × Int → Act)
    (hassign : ∀ (l : Nat) (x : Int × Int) (W : World) (K : Act → World → Prop), K (a₁ x) W →
      assign.wpIn (Fence.wide.inRound l) (n - 1 - 1) Try.prog (Exit.then K (fun _ _ _ => False)) { tmps := (ps.zip #[Value.int .i64 x.1, Value.int .i64 x.2]).foldl (fun t (p, v) => t.setIfInBounds p v) a.tmps, defers := [] } W)
    (hbody : ∀ (l : Nat) (pre : List (Int × Int)) (x : Int × Int) (W : World), w.heap.size ≤ l → (∃ r, W.heap[l]? = some (.loop r)) → I pre W → pre.length < ys.length → body.wpIn (Fence.wide.inRound l) (n - 1 - 1) Try.prog (ownPostG w.heap.size (Mid lo hi) I Ix (pre ++ [x]) W) (a₁ x) W)
    (hdone : ∀ (D : Nat) (W : World), w.heap.size ≤ D → I ys W → W.heap[D]? = some (.deferred (some [])) → Q .normal { a with defers := markOf D :: a.defers } W)
    (hstop : ∀ (D : Nat) (c : Code) (pre : List (Int × Int)) (W : World) (k : Nat), w.heap.size ≤ D → pre = ys.take k → Ix c pre W → W.heap[D]? = some (.deferred (some [])) → c.wpIn Fence.wide n Try.prog Q { a with defers := markOf D :: a.defers } W) :
    (Code.rangeFunc g ps assign body).wpIn Fence.wide n Try.prog Q a w := by
  obtain ⟨gf, lb, rfl, heg, hseq⟩ := it
  exact wpIn_rangeFunc_ownH (F := Fence.wide) rfl hn (gf := gf) (lb := lb) hg trivial heg (hseq w _ (Mid.refl _ _ _)) (fun h k => Mid.trans h k) (fun W l o o' _ h1 h2 _ => Mid.put W l o o' h1 h2) (Below.refl _ _) (fun _ => hps.symm)
    I Ix hI hIx h0 (fun x a' _ => a' = a₁ x) (fun _ _ _ _ _ _ hs _ _ => hs)
    (fun l pre x W K hi hK => hassign l x W K (hK _ _ (KeepsFrom.refl _ _) (Mid.refl _ _ _) hi rfl))
    (fun l pre x a' W h1 h2 h3 e h4 => by subst e; exact hbody l pre x W h1 h2 h3 h4)
    (fun D xs W hD hS hi hK => by subst hS; exact hdone D W hD hi hK)
    (fun D c pre W hD hS hi hK => by obtain ⟨k, -, hk⟩ := hS; exact hstop D c pre W k hD hk hi hK)
/-- A loop over an iterator, within a round of another. -/
theorem range_itN {g : Operand} {ps : Array Tmp} {assign body : Code} {Q : Exit → Act → World → Prop} {a : Act} {w : World} {l₀ n lo hi : Nat} {r₀ : Loop} {v : Value} {ys : List (Int × Int)} (hl₀ : w.heap[l₀]? = some (.loop r₀)) (it : It lo hi w v ys) (hg : a.eval g = v) (hps : ps.size = 2) (hn : 1 ≤ n)
    (I : List (Int × Int) → World → Prop) (hI : OwnFrom w.heap.size I) (h0 : I [] w) (a₁ : Int × Int → Act)
    (hassign : ∀ (l : Nat) (x : Int × Int) (W : World) (K : Act → World → Prop), K (a₁ x) W →
      assign.wpIn ((Fence.wide.inRound l₀).inRound l) (n - 1 - 1) Try.prog (Exit.then K (fun _ _ _ => False)) { tmps := (ps.zip #[Value.int .i64 x.1, Value.int .i64 x.2]).foldl (fun t (p, v) => t.setIfInBounds p v) a.tmps, defers := [] } W)
    (hbody : ∀ (l : Nat) (pre : List (Int × Int)) (x : Int × Int) (W : World), I pre W → pre.length < ys.length → body.wpIn ((Fence.wide.inRound l₀).inRound l) (n - 1 - 1) Try.prog (ownPostG w.heap.size (Mid lo hi) I (fun _ _ _ => False) (pre ++ [x]) W) (a₁ x) W)
    (hdone : ∀ (W : World), I ys W → Q .normal a W) :
    (Code.rangeFunc g ps assign body).wpIn (Fence.wide.inRound l₀) n Try.prog Q a w := by
  obtain ⟨gf, lb, rfl, heg, hseq⟩ := it
  exact wpIn_rangeFunc_ownN (F := Fence.wide.inRound l₀) (l₀ := l₀) (r₀ := r₀) rfl hl₀ hn (gf := gf) (lb := lb) hg trivial heg ((hseq w _ (Mid.refl _ _ _)).inRound l₀) (fun h k => Mid.trans h k) (fun W l o o' _ h1 h2 _ => Mid.put W l o o' h1 h2) (Below.refl _ _) (fun _ => hps.symm)
    I (fun _ _ _ => False) hI (fun _ _ _ _ _ hs _ _ => hs) h0 (fun x a' _ => a' = a₁ x) (fun _ _ _ _ _ _ hs _ _ => hs)
    (fun l pre x W K hi hK => hassign l x W K (hK _ _ (KeepsFrom.refl _ _) (Mid.refl _ _ _) hi rfl))
    (fun l pre x a' W _ _ h3 e h4 => by subst e; exact hbody l pre x W h3 h4)
    (fun xs W hS hi => by subst hS; exact hdone W hi)
    (fun c pre W _ h => h.elim)
/-- Behind a loop the ways meet: where it ran out, where it was left. -/
theorem range_meet {c : Code} {Q : Exit → Act → World → Prop} {a : Act} {w : World} {id n : Nat} (R : Nat → World → Prop)
    (hloop : ∀ Q2 : Exit → Act → World → Prop, (∀ D W', R D W' → Q2 .normal { a with defers := markOf D :: a.defers } W') → (∀ D W', R D W' → Q2 (.exit id) { a with defers := markOf D :: a.defers } W') → c.wpIn Fence.wide n Try.prog Q2 a w)
    (hx : ∀ a' w', Q .normal a' w' → Q (.exit id) a' w') (hrest : ∀ D W', R D W' → Q .normal { a with defers := markOf D :: a.defers } W') : c.wp Try.prog Q a w :=
  wpIn_wide.1 (hloop Q hrest (fun D W' h => hx _ _ (hrest D W' h)))
/-- The front of a slice of ints. -/
theorem slice_front {a : Option Addr} {len cap k : Nat} {h : Int} (hk : h = (k : Int)) (hc : k ≤ cap) : ∀ W : World, (Instr.sliceAt 34 (.slice a len cap) none (some (.int .i64 h)) none).run Try.prog W = .ok (.slice a k cap) W := fun W => by
  have hs : ∀ W : World, (sizeOf 3).run Try.prog W = .ok 1 W := fun _ => by kernel_rfl
  have he : Try.prog.elem 34 = 3 := by kernel_rfl
  have hu : Try.prog.underlying 34 = some (.slice (Try.prog.elem 34)) := by rw [he]; exact Try.underlying34
  rw [run_sliceAt_slice (h := hu), run_slice_h (ht := hu) (h0 := by omega) (h2 := by omega), he, hs]
  subst hk
  have e : a.map (fun x => x.add (0 * 1)) = a := by
    cases a with
    | none => rfl
    | some x => simp [Addr.add]
  simp only [Result.andThen, sliced, Int.toNat_natCast, Nat.sub_zero]
  rw [e]
  simp
theorem Row.front {w : World} {a : Option Addr} {len cap k : Nat} {zs : List Int} (h : Row w a len cap zs) (hk : k ≤ len) : Row w a k cap (zs.take k) := by
  obtain ⟨h1, h2, h3, h4, h5⟩ := h
  refine ⟨by rw [List.length_take]; omega, by omega, h3, h4, fun x hx i hi => ?_⟩
  rw [h5 x hx i (by omega)]
  simp [List.getD, hi]
theorem same_quiet {w : World} {k la ca lb cb : Nat} {a b : Option Addr} {xs ys : List Int} (ha : Row w a la ca xs) (hb : Row w b lb cb ys) (h : xs = ys) :
    Calls Try.prog 20 #[.slice a la ca, .slice b lb cb] (w.drewN k) fun e w'' => e = .returned (.bool true) ∧ ∃ m, w'' = w.drewN m := by
  refine (same_is a b la ca lb cb xs ys (w.drewN k) (ha.below (dbel _ _)) (hb.below (dbel _ _))).mono ?_
  rintro e w' ⟨he, m, rfl⟩
  subst h
  exact ⟨by rw [he]; simp, _, by rw [World.drewN_drewN]⟩
theorem flat_take (l : List (Int × Int)) (k : Nat) : (flat l).take (2 * k) = flat (l.take k) := by
  induction l generalizing k with
  | nil => simp [flat]
  | cons x l ih =>
    cases k with
    | zero => simp [flat]
    | succ k =>
      have e : 2 * (k + 1) = 2 * k + 1 + 1 := by omega
      have := ih k
      rw [e]
      simpa [flat] using this
end Go.Proofs.Ytcgpeaamblanlaa
