/- What the small functions of package terms return: how many terms, channels and positions an op has; its bias; a weight; the channels that are read; a place. The iterator of Taps: called with whatever round, it gives each tap in its order, till it is told to stop. The iterator of Positions: called with whatever round, it gives each position's row and column in their order, till it is told to stop. What corner of package window, and the document's Has, return: each for every argument. Taps and Positions hand back iterators: what they give, and for how long. Rows of ints: what is read of them, what a call owns, what stays behind a call; append over them. What the law's own pairs and spots collect of an iterator: the first so many of what it gives, in a new slice. What places of package terms returns: the places of a channel's terms at a position. A region that draws its order within a round of a loop over an iterator: it goes as outside of one; 'append' of one int as a step of such a region. What places of package terms returns of an op with a window: the places of a channel's terms at a position. -/
import Derived.Test.YtcjnhchjikcigaaGr01
import Derived.Test.YtcjnhchjikcigaaGr02
import Derived.Test.YtcjnhchjikcigaaGr13
import Derived.Test.YtcjnhchjikcigaaGr16
import Derived.BigQuiet
import Derived.RangeFuncNested
import Derived.RangeFuncBound
import Derived.RangeFuncCalls
import Derived.RangeFuncLeaves
import Derived.Shelf.Abstract
import Derived.Shelf.RegionOpen
import Derived.WalkKit
import Derived.OwnWalkIn
import Derived.TacticsInMore
import Derived.LoopNIn
import Derived.LoopIn
import Derived.Laws.AppendOwnNone
import Derived.RangeFuncBox
import Derived.Maps.AppendAt
/- What the small functions of package terms return: how many terms, channels and positions an op has; its bias; a weight; the channels that are read; a place. -/
namespace Go.Proofs.Ytcjnhchjikcigaa
open Go.ChangeShapes Go.WideShapes Go.ChangeAt Go.RowKit
set_option linter.unusedVariables false
theorem Sit.win {k kh kw sh sw tp lf bt rt h w c H V C : Int} {lw lb : Nat} (s : Sit k kh kw sh sw tp lf bt rt h w c H V C lw lb) (q : k ≠ 1) : (1 ≤ kh ∧ kh ≤ 32) ∧ (1 ≤ kw ∧ kw ≤ 32) := s.2.2.2.2.2.1 (by have := s.1; omega)
set_option maxHeartbeats 1000000 in
theorem tlen_1 (a b m kh kw sh sw tp lf bt rt : Int) (wa : Option Addr) (lw wc : Nat) (ba : Option Addr) (lb bc : Nat) (sm ss um us z p lo hi h w c H V C : Int) (r : Nat) (W : World) (hr : W.heap[r]? = some (.cells #[.int .i64 1, .int .i64 a, .int .i64 b, .int .i64 m, .int .i64 kh, .int .i64 kw, .int .i64 sh, .int .i64 sw, .int .i64 tp, .int .i64 lf, .int .i64 bt, .int .i64 rt, .slice wa lw wc, .slice ba lb bc, .int .i64 sm, .int .i64 ss, .int .i64 um, .int .i64 us, .int .i64 z, .int .i64 p, .int .i64 lo, .int .i64 hi, .int .i64 h, .int .i64 w, .int .i64 c, .int .i64 H, .int .i64 V, .int .i64 C] 106 (0, 0))) (g : vS h w c = true) (hw : (1 : Int) ≠ 1 → (1 ≤ kh ∧ kh ≤ 32) ∧ (1 ≤ kw ∧ kw ≤ 32)) :
    Calls Try.prog 51 #[.pointer (some ⟨r, 0, none⟩)] W fun e w' => e = .returned (.int .i64 (stR 1 kh kw h w c)) ∧ ∃ n, w' = W.drewN n := by
  have p3 : (1 ≤ h * w ∧ h * w ≤ 1048576) ∧ (1 ≤ h * w * c ∧ h * w * c ≤ 16384) := vS_bd g
  have c1 := (vS_yes g).2.2.1
  have hp : (1 : Int) ≠ 1 → (1 ≤ kh * kw ∧ kh * kw ≤ 1024) ∧ (1 ≤ kh * kw * c ∧ kh * kw * c ≤ 1048576) := fun q => by
    obtain ⟨hw1, hw2⟩ := hw q
    obtain ⟨p1, p2⟩ := mul_bd hw1.1 hw1.2 hw2.1 hw2.2
    obtain ⟨q1, q2⟩ := mul_bd p1 p2 c1.1 c1.2
    exact ⟨⟨p1, by omega⟩, q1, by omega⟩
  rw [show stR 1 kh kw h w c = (if (1 : Int) = 1 then h * w * c else if (1 : Int) = 2 then kh * kw * c else kh * kw) from rfl]
  simp at hp ⊢
  obtain ⟨p', ep⟩ : ∃ p', h * w = p' := ⟨_, rfl⟩
  obtain ⟨q', eq⟩ : ∃ q', kh * kw = q' := ⟨_, rfl⟩
  rw [ep] at p3
  try rw [eq] at hp
  try rw [ep]
  try rw [eq]
  obtain ⟨y1, y2, y3⟩ := cells_at hr
  clear g hw c1 hr
  go_enter Try.func51, Try.ntmps51
  go_wp2
  go_quiet (fail)
  go_wp2
  go_ret
  exact ⟨rfl, _, rfl⟩
set_option maxHeartbeats 1000000 in
theorem tlen_2 (a b m kh kw sh sw tp lf bt rt : Int) (wa : Option Addr) (lw wc : Nat) (ba : Option Addr) (lb bc : Nat) (sm ss um us z p lo hi h w c H V C : Int) (r : Nat) (W : World) (hr : W.heap[r]? = some (.cells #[.int .i64 2, .int .i64 a, .int .i64 b, .int .i64 m, .int .i64 kh, .int .i64 kw, .int .i64 sh, .int .i64 sw, .int .i64 tp, .int .i64 lf, .int .i64 bt, .int .i64 rt, .slice wa lw wc, .slice ba lb bc, .int .i64 sm, .int .i64 ss, .int .i64 um, .int .i64 us, .int .i64 z, .int .i64 p, .int .i64 lo, .int .i64 hi, .int .i64 h, .int .i64 w, .int .i64 c, .int .i64 H, .int .i64 V, .int .i64 C] 106 (0, 0))) (g : vS h w c = true) (hw : (2 : Int) ≠ 1 → (1 ≤ kh ∧ kh ≤ 32) ∧ (1 ≤ kw ∧ kw ≤ 32)) :
    Calls Try.prog 51 #[.pointer (some ⟨r, 0, none⟩)] W fun e w' => e = .returned (.int .i64 (stR 2 kh kw h w c)) ∧ ∃ n, w' = W.drewN n := by
  have p3 : (1 ≤ h * w ∧ h * w ≤ 1048576) ∧ (1 ≤ h * w * c ∧ h * w * c ≤ 16384) := vS_bd g
  have c1 := (vS_yes g).2.2.1
  have hp : (2 : Int) ≠ 1 → (1 ≤ kh * kw ∧ kh * kw ≤ 1024) ∧ (1 ≤ kh * kw * c ∧ kh * kw * c ≤ 1048576) := fun q => by
    obtain ⟨hw1, hw2⟩ := hw q
    obtain ⟨p1, p2⟩ := mul_bd hw1.1 hw1.2 hw2.1 hw2.2
    obtain ⟨q1, q2⟩ := mul_bd p1 p2 c1.1 c1.2
    exact ⟨⟨p1, by omega⟩, q1, by omega⟩
  rw [show stR 2 kh kw h w c = (if (2 : Int) = 1 then h * w * c else if (2 : Int) = 2 then kh * kw * c else kh * kw) from rfl]
  simp at hp ⊢
  obtain ⟨p', ep⟩ : ∃ p', h * w = p' := ⟨_, rfl⟩
  obtain ⟨q', eq⟩ : ∃ q', kh * kw = q' := ⟨_, rfl⟩
  rw [ep] at p3
  try rw [eq] at hp
  try rw [ep]
  try rw [eq]
  obtain ⟨y1, y2, y3⟩ := cells_at hr
  clear g hw c1 hr
  go_enter Try.func51, Try.ntmps51
  go_wp2
  go_quiet (fail)
  go_wp2
  go_ret
  exact ⟨rfl, _, rfl⟩
set_option maxHeartbeats 1000000 in
theorem tlen_3 (a b m kh kw sh sw tp lf bt rt : Int) (wa : Option Addr) (lw wc : Nat) (ba : Option Addr) (lb bc : Nat) (sm ss um us z p lo hi h w c H V C : Int) (r : Nat) (W : World) (hr : W.heap[r]? = some (.cells #[.int .i64 3, .int .i64 a, .int .i64 b, .int .i64 m, .int .i64 kh, .int .i64 kw, .int .i64 sh, .int .i64 sw, .int .i64 tp, .int .i64 lf, .int .i64 bt, .int .i64 rt, .slice wa lw wc, .slice ba lb bc, .int .i64 sm, .int .i64 ss, .int .i64 um, .int .i64 us, .int .i64 z, .int .i64 p, .int .i64 lo, .int .i64 hi, .int .i64 h, .int .i64 w, .int .i64 c, .int .i64 H, .int .i64 V, .int .i64 C] 106 (0, 0))) (g : vS h w c = true) (hw : (3 : Int) ≠ 1 → (1 ≤ kh ∧ kh ≤ 32) ∧ (1 ≤ kw ∧ kw ≤ 32)) :
    Calls Try.prog 51 #[.pointer (some ⟨r, 0, none⟩)] W fun e w' => e = .returned (.int .i64 (stR 3 kh kw h w c)) ∧ ∃ n, w' = W.drewN n := by
  have p3 : (1 ≤ h * w ∧ h * w ≤ 1048576) ∧ (1 ≤ h * w * c ∧ h * w * c ≤ 16384) := vS_bd g
  have c1 := (vS_yes g).2.2.1
  have hp : (3 : Int) ≠ 1 → (1 ≤ kh * kw ∧ kh * kw ≤ 1024) ∧ (1 ≤ kh * kw * c ∧ kh * kw * c ≤ 1048576) := fun q => by
    obtain ⟨hw1, hw2⟩ := hw q
    obtain ⟨p1, p2⟩ := mul_bd hw1.1 hw1.2 hw2.1 hw2.2
    obtain ⟨q1, q2⟩ := mul_bd p1 p2 c1.1 c1.2
    exact ⟨⟨p1, by omega⟩, q1, by omega⟩
  rw [show stR 3 kh kw h w c = (if (3 : Int) = 1 then h * w * c else if (3 : Int) = 2 then kh * kw * c else kh * kw) from rfl]
  simp at hp ⊢
  obtain ⟨p', ep⟩ : ∃ p', h * w = p' := ⟨_, rfl⟩
  obtain ⟨q', eq⟩ : ∃ q', kh * kw = q' := ⟨_, rfl⟩
  rw [ep] at p3
  try rw [eq] at hp
  try rw [ep]
  try rw [eq]
  obtain ⟨y1, y2, y3⟩ := cells_at hr
  clear g hw c1 hr
  go_enter Try.func51, Try.ntmps51
  go_wp2
  go_quiet (fail)
  go_wp2
  go_ret
  exact ⟨rfl, _, rfl⟩
set_option maxHeartbeats 1000000 in
theorem tlen_4 (a b m kh kw sh sw tp lf bt rt : Int) (wa : Option Addr) (lw wc : Nat) (ba : Option Addr) (lb bc : Nat) (sm ss um us z p lo hi h w c H V C : Int) (r : Nat) (W : World) (hr : W.heap[r]? = some (.cells #[.int .i64 4, .int .i64 a, .int .i64 b, .int .i64 m, .int .i64 kh, .int .i64 kw, .int .i64 sh, .int .i64 sw, .int .i64 tp, .int .i64 lf, .int .i64 bt, .int .i64 rt, .slice wa lw wc, .slice ba lb bc, .int .i64 sm, .int .i64 ss, .int .i64 um, .int .i64 us, .int .i64 z, .int .i64 p, .int .i64 lo, .int .i64 hi, .int .i64 h, .int .i64 w, .int .i64 c, .int .i64 H, .int .i64 V, .int .i64 C] 106 (0, 0))) (g : vS h w c = true) (hw : (4 : Int) ≠ 1 → (1 ≤ kh ∧ kh ≤ 32) ∧ (1 ≤ kw ∧ kw ≤ 32)) :
    Calls Try.prog 51 #[.pointer (some ⟨r, 0, none⟩)] W fun e w' => e = .returned (.int .i64 (stR 4 kh kw h w c)) ∧ ∃ n, w' = W.drewN n := by
  have p3 : (1 ≤ h * w ∧ h * w ≤ 1048576) ∧ (1 ≤ h * w * c ∧ h * w * c ≤ 16384) := vS_bd g
  have c1 := (vS_yes g).2.2.1
  have hp : (4 : Int) ≠ 1 → (1 ≤ kh * kw ∧ kh * kw ≤ 1024) ∧ (1 ≤ kh * kw * c ∧ kh * kw * c ≤ 1048576) := fun q => by
    obtain ⟨hw1, hw2⟩ := hw q
    obtain ⟨p1, p2⟩ := mul_bd hw1.1 hw1.2 hw2.1 hw2.2
    obtain ⟨q1, q2⟩ := mul_bd p1 p2 c1.1 c1.2
    exact ⟨⟨p1, by omega⟩, q1, by omega⟩
  rw [show stR 4 kh kw h w c = (if (4 : Int) = 1 then h * w * c else if (4 : Int) = 2 then kh * kw * c else kh * kw) from rfl]
  simp at hp ⊢
  obtain ⟨p', ep⟩ : ∃ p', h * w = p' := ⟨_, rfl⟩
  obtain ⟨q', eq⟩ : ∃ q', kh * kw = q' := ⟨_, rfl⟩
  rw [ep] at p3
  try rw [eq] at hp
  try rw [ep]
  try rw [eq]
  obtain ⟨y1, y2, y3⟩ := cells_at hr
  clear g hw c1 hr
  go_enter Try.func51, Try.ntmps51
  go_wp2
  go_quiet (fail)
  go_wp2
  go_ret
  exact ⟨rfl, _, rfl⟩
theorem tlen_any (k a b m kh kw sh sw tp lf bt rt : Int) (wa : Option Addr) (lw wc : Nat) (ba : Option Addr) (lb bc : Nat) (sm ss um us z p lo hi h w c H V C : Int) (r : Nat) (W : World) (hr : W.heap[r]? = some (.cells #[.int .i64 k, .int .i64 a, .int .i64 b, .int .i64 m, .int .i64 kh, .int .i64 kw, .int .i64 sh, .int .i64 sw, .int .i64 tp, .int .i64 lf, .int .i64 bt, .int .i64 rt, .slice wa lw wc, .slice ba lb bc, .int .i64 sm, .int .i64 ss, .int .i64 um, .int .i64 us, .int .i64 z, .int .i64 p, .int .i64 lo, .int .i64 hi, .int .i64 h, .int .i64 w, .int .i64 c, .int .i64 H, .int .i64 V, .int .i64 C] 106 (0, 0))) (s : Sit k kh kw sh sw tp lf bt rt h w c H V C lw lb) :
    Calls Try.prog 51 #[.pointer (some ⟨r, 0, none⟩)] W fun e w' => e = .returned (.int .i64 (stR k kh kw h w c)) ∧ ∃ n, w' = W.drewN n := by
  have hk := s.1
  have g := s.2.1
  have hw := s.win
  rcases (show k = 1 ∨ k = 2 ∨ k = 3 ∨ k = 4 by omega) with rfl | rfl | rfl | rfl
  · exact tlen_1 a b m kh kw sh sw tp lf bt rt wa lw wc ba lb bc sm ss um us z p lo hi h w c H V C r W hr g hw
  · exact tlen_2 a b m kh kw sh sw tp lf bt rt wa lw wc ba lb bc sm ss um us z p lo hi h w c H V C r W hr g hw
  · exact tlen_3 a b m kh kw sh sw tp lf bt rt wa lw wc ba lb bc sm ss um us z p lo hi h w c H V C r W hr g hw
  · exact tlen_4 a b m kh kw sh sw tp lf bt rt wa lw wc ba lb bc sm ss um us z p lo hi h w c H V C r W hr g hw
/-- The channels that are read: the first, and the one behind the last. -/
def chF (k ch : Int) : Int := if k = 2 then 0 else ch - 1
def chB (k c ch : Int) : Int := if k = 2 then c else ch
end Go.Proofs.Ytcjnhchjikcigaa

/- The iterator of Taps: called with whatever round, it gives each tap in its order, till it is told to stop. -/
namespace Go.Proofs.Ytcjnhchjikcigaa
open Go.ChangeShapes Go.WideShapes Go.ChangeAt Go.RowKit Go.Shelf
attribute [local go_sem] Oper.semAt_some
/-- What a round keeps: the listed blocks. -/
def Kept (l : List Nat) (W W' : World) : Prop := ∀ b ∈ l, ∀ c t, W.heap[b]? = some (.cells c t (0, 0)) → W'.heap[b]? = some (.cells c t (0, 0))
theorem Kept.refl (l : List Nat) (W : World) : Kept l W W := fun _ _ _ _ h => h
theorem Kept.trans {l : List Nat} {A B C : World} (h : Kept l A B) (k : Kept l B C) : Kept l A C := fun b hb c t hc => k b hb c t (h b hb c t hc)
theorem Kept.put {l : List Nat} (W : World) (i : Nat) (o o' : Obj) (h : W.heap[i]? = some o) (ho : o.isCells = false) : Kept l W (W.putObj i o') := fun b _ _ _ hc => by
  by_cases e : b = i
  · subst e; rw [h] at hc; cases hc; cases ho
  · rw [World.putObj_heap_other e]; exact hc
theorem Kept.below {l : List Nat} {W W' : World} (h : Below W.heap.size W W') : Kept l W W' := fun b _ _ _ hc => (h.block b (lt_of_heap hc)).trans hc
theorem Kept.grown {l : List Nat} {W W' : World} {g : Option Nat} (h : W.grownBy W' g) (hg : ∀ b, g = some b → b ∉ l) : Kept l W W' := fun b hb _ _ hc => (h.block b (lt_of_heap hc) (fun e => hg b e.symm hb)).trans hc
/-- A world in which all that lay in W lies as it lay. -/
def Wn (W : World) : Type := Subtype fun w : World => Below W.heap.size W w
def Wn.w {W : World} (n : Wn W) : World := n.1
theorem Wn.h {W : World} (n : Wn W) : Below W.heap.size W n.w := n.2
def Wn.mk {W : World} (w : World) (h : Below W.heap.size W w) : Wn W := Subtype.mk w h
theorem Wn.rule {W : World} {B : Nat} {c : Array Value} {t : TypeId} (h : W.heap[B]? = some (.cells c t (0, 0))) : ∀ (n : Wn W) (i : Nat), n.w.cell? ⟨B, i, none⟩ = c[i]? := fun n i => by
  have h0 : n.w.heap[B]? = some (.cells c t (0, 0)) := (n.h.block B (lt_of_heap h)).trans h
  simp [World.cell?, h0]
theorem wn_call {f : FuncId} {args : Array Value} {W : World} {n : Wn W} {m : Nat} {v : Value}
    (h : Calls Try.prog f args n.w fun e w' => e = .returned v ∧ Below n.w.heap.size n.w w') : CallsIn Fence.wide m Try.prog f args n.w fun e w'' => e = .returned v ∧ ∃ k : Wn W, w'' = k.w :=
  callsIn_wide.2 (h.mono fun _ _ ⟨he, hb⟩ => ⟨he, Wn.mk _ (n.h.trans (hb.mono n.h.size)), rfl⟩)
theorem grownBy_of_below {W W' : World} (k : Below W.heap.size W W') : W.grownBy W' none := ⟨k.os, k.tape, k.output, k.size, fun i hi _ => k.block i hi⟩
theorem abides_below {β : Type} {B : Nat} {J : β → World → Prop} (hJ : AbidesFrom B J) {s : β} {W W' : World} (h : J s W) (k : Below W.heap.size W W') : J s W' :=
  hJ s W W' none h (grownBy_of_below k) (fun r e => by cases e)
end Go.Proofs.Ytcjnhchjikcigaa

/- The iterator of Positions: called with whatever round, it gives each position's row and column in their order, till it is told to stop. -/
namespace Go.Proofs.Ytcjnhchjikcigaa
open Go.ChangeShapes Go.WideShapes Go.ChangeAt Go.RowKit Go.Shelf
attribute [local go_sem] Oper.semAt_some
theorem spot_at {q y x : Nat} (hx : x < q) : (((y * q + x : Nat) : Int) / (q : Int), ((y * q + x : Nat) : Int) % (q : Int)) = ((y : Int), (x : Int)) := by
  have e1 : ((y * q + x : Nat) : Int) / (q : Int) = y := by
    rw [← Int.natCast_ediv]
    congr 1
    rw [Nat.mul_comm, Nat.mul_add_div (by omega), Nat.div_eq_of_lt hx, Nat.add_zero]
  have e2 : ((y * q + x : Nat) : Int) % (q : Int) = x := by
    rw [← Int.natCast_emod]
    congr 1
    rw [Nat.mul_comm, Nat.mul_add_mod, Nat.mod_eq_of_lt hx]
  rw [e1, e2]
end Go.Proofs.Ytcjnhchjikcigaa

/- What corner of package window, and the document's Has, return: each for every argument. -/
namespace Go.Proofs.Ytcjnhchjikcigaa
open Go.ChangeShapes Go.WideShapes Go.ChangeAt Go.RowKit
theorem drewN_below (w : World) (n : Nat) : Below w.heap.size w (w.drewN n) := below_drewN (Below.refl _ _) n
theorem coR_bad {h w c kh kw sh sw tp lf bt rt n e : Int} (he : ouR h w c kh kw sh sw tp lf bt rt = (0, 0, e)) (h2 : e ≠ 0) : coR h w c kh kw sh sw tp lf bt rt n = (0, 0, e) := by unfold coR; rw [he, if_neg (by simpa using h2)]
theorem coR_out {h w c kh kw sh sw tp lf bt rt n r q : Int} (he : ouR h w c kh kw sh sw tp lf bt rt = (r, q, 0)) (hn : ¬ (0 ≤ n ∧ n < r * q)) : coR h w c kh kw sh sw tp lf bt rt n = (0, 0, 3) := by unfold coR; rw [he, if_pos rfl, if_neg hn]
theorem coR_in {h w c kh kw sh sw tp lf bt rt n r q : Int} (he : ouR h w c kh kw sh sw tp lf bt rt = (r, q, 0)) (hn : 0 ≤ n ∧ n < r * q) : coR h w c kh kw sh sw tp lf bt rt n = (n / q * sh - tp, n % q * sw - lf, 0) := by unfold coR; rw [he, if_pos rfl, if_pos hn]
end Go.Proofs.Ytcjnhchjikcigaa

/- Taps and Positions hand back iterators: what they give, and for how long. -/
namespace Go.Proofs.Ytcjnhchjikcigaa
open Go.ChangeShapes Go.WideShapes Go.ChangeAt Go.RowKit Go.Shelf
/-- What lies from block lo on, ahead of block hi, lies as it lay. -/
def Mid (lo hi : Nat) (W W' : World) : Prop := ∀ b, lo ≤ b → b < hi → ∀ c t, W.heap[b]? = some (.cells c t (0, 0)) → W'.heap[b]? = some (.cells c t (0, 0))
theorem Mid.refl (lo hi : Nat) (W : World) : Mid lo hi W W := fun _ _ _ _ _ h => h
theorem Mid.trans {lo hi : Nat} {A B C : World} (h : Mid lo hi A B) (k : Mid lo hi B C) : Mid lo hi A C := fun b h1 h2 c t hc => k b h1 h2 c t (h b h1 h2 c t hc)
theorem Mid.put {lo hi : Nat} (W : World) (i : Nat) (o o' : Obj) (h : W.heap[i]? = some o) (ho : o.isCells = false) : Mid lo hi W (W.putObj i o') := fun b _ _ _ _ hc => by
  by_cases e : b = i
  · subst e; rw [h] at hc; cases hc; cases ho
  · rw [World.putObj_heap_other e]; exact hc
theorem Mid.below {lo hi n : Nat} {W W' : World} (h : Below n W W') (hn : hi ≤ n) : Mid lo hi W W' := fun b _ h2 _ _ hc => (h.block b (by omega)).trans hc
theorem Mid.later {lo hi : Nat} {W W' : World} (h : Below W.heap.size W W') : Mid lo hi W W' := fun b _ _ _ _ hc => (h.block b (lt_of_heap hc)).trans hc
theorem Mid.grown {lo hi : Nat} {W W' : World} {g : Option Nat} (h : W.grownBy W' g) (hg : ∀ b, g = some b → b < lo ∨ hi ≤ b) : Mid lo hi W W' := fun b h1 h2 _ _ hc => (h.block b (lt_of_heap hc) (fun e => by have := hg b e.symm; omega)).trans hc
theorem Mid.set {lo hi : Nat} (W : World) {B i : Nat} {v : Value} (hB : B < lo ∨ hi ≤ B) : Mid lo hi W (W.setCell ⟨B, i, none⟩ v) := fun b h1 h2 _ _ hc => by
  rw [Below.heap_setCell _ _ _ _ (by show b ≠ B; omega)]; exact hc
theorem Mid.kept {lo hi : Nat} {l : List Nat} {W W' : World} (h : Mid lo hi W W') (hl : ∀ b ∈ l, lo ≤ b ∧ b < hi) : Kept l W W' := fun b hb c t hc => h b (hl b hb).1 (hl b hb).2 c t hc
/-- An iterator that lies from block lo on, ahead of block hi, and gives these pairs. -/
def It (lo hi : Nat) (w : World) (v : Value) (ys : List (Int × Int)) : Prop :=
  ∃ g lb, v = .func (.func g) #[] lb ∧ (∀ args w, (callFunc g args).run Try.prog w = .ok (.enter g args) w) ∧
    ∀ w' m, Mid lo hi w w' → SeqStopsK Fence.wide m Try.prog g lb (fun x : Int × Int => #[Value.int .i64 x.1, Value.int .i64 x.2]) (Mid lo hi) (fun zs => zs = ys) (fun pre => ∃ k, k ≤ ys.length ∧ pre = ys.take k) ys.length w'
theorem It.mid {lo hi : Nat} {w w' : World} {v : Value} {ys : List (Int × Int)} (h : It lo hi w v ys) (k : Mid lo hi w w') : It lo hi w' v ys := by
  obtain ⟨g, lb, h1, h2, h3⟩ := h
  exact ⟨g, lb, h1, h2, fun w'' m k' => h3 w'' m (k.trans k')⟩
theorem It.later {lo hi : Nat} {w w' : World} {v : Value} {ys : List (Int × Int)} (h : It lo hi w v ys) (k : Below w.heap.size w w') : It lo hi w' v ys := h.mid (Mid.later k)
theorem cell_of {lo hi : Nat} {w w' W : World} {b : Nat} {c : Array Value} {t : TypeId} (h : w.heap[b]? = some (.cells c t (0, 0))) (h1 : lo ≤ b) (h2 : b < hi) (k : Mid lo hi w w') (hW : Below w'.heap.size w' W) : W.heap[b]? = some (.cells c t (0, 0)) :=
  Mid.later (lo := lo) (hi := hi) hW b h1 h2 c t (k b h1 h2 c t h)
/-- What the listed blocks hold. -/
def Heaps (w : World) : List (Nat × Array Value × TypeId) → Prop
  | [] => True
  | (B, c, t) :: l => w.heap[B]? = some (.cells c t) ∧ Heaps w l
theorem heaps_of {w : World} : ∀ (l : List (Nat × Array Value × TypeId)), (∀ x ∈ l, w.heap[x.1]? = some (.cells x.2.1 x.2.2)) → Heaps w l
  | [], _ => trivial
  | (_, _, _) :: l, h => ⟨h _ List.mem_cons_self, heaps_of l fun x hx => h x (List.mem_cons_of_mem _ hx)⟩
theorem St.heaps {w0 w : World} {l : List (Nat × Array Value × TypeId)} (h : St w0 w l) : Heaps w l := heaps_of l fun x hx => (h.2 x hx).1
theorem tapsOf_no {h w c kh kw sh sw tp lf bt rt n e : Int} (he : coR h w c kh kw sh sw tp lf bt rt n = (0, 0, e)) (h2 : e ≠ 0) : tapsOf h w c kh kw sh sw tp lf bt rt n = [] := by unfold tapsOf; rw [he, if_neg (by simpa using h2)]
theorem tapsOf_ok {h w c kh kw sh sw tp lf bt rt n t u : Int} (he : coR h w c kh kw sh sw tp lf bt rt n = (t, u, 0)) : tapsOf h w c kh kw sh sw tp lf bt rt n = tapL h w kw t u (kh * kw).toNat := by unfold tapsOf; rw [he, if_pos rfl]
theorem spotsOf_no {h w c kh kw sh sw tp lf bt rt e : Int} (he : ouR h w c kh kw sh sw tp lf bt rt = (0, 0, e)) : spotsOf h w c kh kw sh sw tp lf bt rt = [] := by unfold spotsOf; rw [he]; rfl
theorem spotsOf_ok {h w c kh kw sh sw tp lf bt rt : Int} {r q : Nat} {e : Int} (he : ouR h w c kh kw sh sw tp lf bt rt = ((r : Int), (q : Int), e)) : spotsOf h w c kh kw sh sw tp lf bt rt = spotL q (r * q) := by
  unfold spotsOf
  rw [he]
  have : ((r : Int) * (q : Int)).toNat = r * q := by rw [← Int.natCast_mul]; rfl
  simp only [this]
end Go.Proofs.Ytcjnhchjikcigaa

/- Rows of ints: what is read of them, what a call owns, what stays behind a call; append over them. -/
namespace Go.Proofs.Ytcjnhchjikcigaa.Nx
open Go.ChangeShapes Go.WideShapes Go.ChangeAt Go.RowKit
/-- What a slice of ints reads as. -/
def Row (w : World) (a : Option Addr) (len cap : Nat) (zs : List Int) : Prop :=
  zs.length = len ∧ len ≤ cap ∧ cap ≤ maxLen ∧ (a = none → cap = 0) ∧ ∀ x, a = some x → ∀ i, i < len → w.cell? (x.add i) = some (.int .i64 (zs.getD i 0))
theorem Row.mono {w w' : World} {a : Option Addr} {len cap : Nat} {zs : List Int} (h : Row w a len cap zs) (k : ∀ x v, w.cell? x = some (.int .i64 v) → w'.cell? x = some (.int .i64 v)) : Row w' a len cap zs :=
  ⟨h.1, h.2.1, h.2.2.1, h.2.2.2.1, fun x hx i hi => k _ _ (h.2.2.2.2 x hx i hi)⟩
theorem Row.below {w w' : World} {a : Option Addr} {len cap : Nat} {zs : List Int} (h : Row w a len cap zs) (k : Below w.heap.size w w') : Row w' a len cap zs :=
  h.mono fun x _ hx => (k.cell (World.block_lt_of_cell? w x hx)).trans hx
/-- What the call made, from block 'base' on, and may write. -/
def Own (w : World) (base : Nat) (v : Value) (zs : List Int) : Prop := w.ownsRow base 3 1 v zs.length (zs.map (Value.int .i64))
theorem Own.shape {w : World} {base : Nat} {v : Value} {zs : List Int} (h : Own w base v zs) :
    (v = .slice none 0 0 ∧ zs = []) ∨ ∃ g cap, v = .slice (some ⟨g, 0, none⟩) zs.length cap ∧ base ≤ g ∧ g < w.heap.size ∧ zs.length ≤ cap ∧ cap ≤ maxLen ∧
      (∀ i, i < zs.length → w.cell? ⟨g, i, none⟩ = some (.int .i64 (zs.getD i 0))) ∧ ∀ i, w.frozen? ⟨g, i, none⟩ = false := by
  obtain ⟨h1, h2⟩ := h
  rcases h2 with ⟨rfl, h0⟩ | ⟨g, cap, cur, rfl, hg, hh, hn, hm, hs, ht⟩
  · exact .inl ⟨rfl, List.eq_nil_of_length_eq_zero h0⟩
  · refine .inr ⟨g, cap, rfl, hg, lt_of_heap hh, hn, hm, fun i hi => ?_, fun i => ?_⟩
    · have hc : cur[i]? = some (.int .i64 (zs.getD i 0)) := by
        have : (cur.toList.take (zs.length * 1))[i]? = some (.int .i64 (zs.getD i 0)) := by rw [ht]; simp [List.getD, hi]
        rw [List.getElem?_take, if_pos (by omega)] at this
        simpa using this
      simp [World.cell?, hh, hc]
    · simp only [World.frozen?, hh]; simp
theorem Own.row {w : World} {base : Nat} {v : Value} {zs : List Int} (h : Own w base v zs) : ∃ a cap, v = .slice a zs.length cap ∧ Row w a zs.length cap zs ∧ ∀ x, a = some x → base ≤ x.block ∧ x.block < w.heap.size := by
  rcases h.shape with ⟨rfl, rfl⟩ | ⟨g, cap, rfl, hg, hlt, hn, hm, hc, _⟩
  · exact ⟨none, 0, rfl, ⟨rfl, by simp, by simp, fun _ => rfl, fun x hx => by cases hx⟩, fun x hx => by cases hx⟩
  · refine ⟨some ⟨g, 0, none⟩, cap, rfl, ⟨rfl, hn, hm, fun h => (by cases h), fun x hx i hi => ?_⟩, fun x hx => ?_⟩
    · cases hx; rw [Addr.add_lit, Nat.zero_add]; exact hc i hi
    · cases hx; exact ⟨hg, hlt⟩
theorem Own.block {w : World} {base : Nat} {v : Value} {zs : List Int} (h : Own w base v zs) {b : Nat} (hb : v.ownBlock = some b) : base ≤ b := by
  rcases h.shape with ⟨rfl, _⟩ | ⟨g, cap, rfl, hg, _⟩
  · simp [Value.ownBlock] at hb
  · obtain rfl : g = b := by simpa [Value.ownBlock] using hb
    exact hg
theorem Own.below {w w' : World} {base : Nat} {v : Value} {zs : List Int} (h : Own w base v zs) (k : Below w.heap.size w w') : Own w' base v zs := by
  refine World.ownsRow.kept (row := none) h ⟨k.os, k.tape, k.output, k.size, fun i hi _ => k.block i hi⟩ ?_
  rcases h.shape with ⟨rfl, _⟩ | ⟨g, cap, rfl, _⟩
  · exact .inl rfl
  · exact .inr (by simp [Value.ownBlock])
theorem Own.base {w : World} {b c : Nat} {v : Value} {zs : List Int} (h : Own w b v zs) (k : c ≤ b) : Own w c v zs := by
  refine ⟨h.1, ?_⟩
  rcases h.2 with h | ⟨g, cap, cur, h1, h2, h3⟩
  · exact .inl h
  · exact .inr ⟨g, cap, cur, h1, Nat.le_trans k h2, h3⟩
theorem own_none (w : World) (base : Nat) : Own w base (.slice none 0 0) [] := World.ownsRow_nil _ _ _ _
theorem own_lit (w : World) (base : Nat) (zs : List Int) (hm : zs.length ≤ maxLen) (hw : base ≤ w.heap.size) :
    Own (w.alloc (.cells (zs.map (Value.int .i64)).toArray 3)) base (.slice (some ⟨w.heap.size, 0, none⟩) zs.length zs.length) zs := by
  have := World.ownsRow_lit (base := base) (e := 3) (size := 1) w (zs.map (Value.int .i64)).toArray zs.length hw hm (by simp)
  simp only at this
  exact this
theorem Try.infoI : (Try.prog.info? 3).map (fun i => (i.zero, i.size, i.bytes)) = some (some (.int .i64 0), 1, 8) := by kernel_rfl
/-- Ints laid in a block of their own, ahead of an append. -/
theorem row_one (w : World) (z : Int) : Row (w.alloc (.cells #[.int .i64 z] 3)) (some ⟨w.heap.size, 0, none⟩) 1 1 [z] := by
  refine ⟨rfl, Nat.le_refl _, by unfold maxLen; omega, fun h => (by cases h), fun x hx i hi => ?_⟩
  cases hx
  obtain rfl : i = 0 := by omega
  simp [Addr.add]
theorem Own.alloc {w : World} {base : Nat} {v : Value} {zs : List Int} (h : Own w base v zs) (o : Obj) : Own (w.alloc o) base v zs := h.below ((Below.refl _ _).alloc (Nat.le_refl _) _)
end Go.Proofs.Ytcjnhchjikcigaa.Nx

/- What the law's own pairs and spots collect of an iterator: the first so many of what it gives, in a new slice. -/
namespace Go.Proofs.Ytcjnhchjikcigaa.Nx
open Go.ChangeShapes Go.WideShapes Go.ChangeAt Go.RowKit Go.Shelf
attribute [local go_sem] Oper.semAt_some
def flat (l : List (Int × Int)) : List Int := l.flatMap fun p => [p.1, p.2]
theorem flat_len (l : List (Int × Int)) : (flat l).length = 2 * l.length := by
  induction l with
  | nil => rfl
  | cons x r ih => simp [flat] at ih ⊢; omega
theorem flat_snoc (l : List (Int × Int)) (x : Int × Int) : flat (l ++ [x]) = flat l ++ [x.1, x.2] := by simp [flat]
theorem tapsOf_len (h w c kh kw sh sw tp lf bt rt n : Int) : (tapsOf h w c kh kw sh sw tp lf bt rt n).length ≤ 1024 := by
  rcases coR_cases h w c kh kw sh sw tp lf bt rt n with ⟨e, he, h2⟩ | ⟨r, q, he, hf, hn, hc⟩
  · rw [tapsOf_no he (by omega)]; simp
  · rw [tapsOf_ok hc, tapL_len]
    obtain ⟨-, ⟨k1, k2, -⟩, -⟩ := hf
    have := Int.mul_le_mul k1.2 k2.2 (by omega) (by omega)
    omega
theorem spotsOf_len (h w c kh kw sh sw tp lf bt rt : Int) : (spotsOf h w c kh kw sh sw tp lf bt rt).length ≤ 1440000 := by
  rcases ouR_cases h w c kh kw sh sw tp lf bt rt with ⟨e, he, h2⟩ | ⟨r, q, he, hf⟩
  · rw [spotsOf_no he]; simp
  · unfold spotsOf
    rw [he, spotL_len]
    obtain ⟨-, -, r1, q1, -⟩ := hf
    have := Int.mul_le_mul r1.2 q1.2 (by omega) (by omega)
    simp only; omega
theorem ownFrom_mid {lo hi : Nat} {w : World} {β : Type} : OwnFrom hi (fun (_ : β) W => Mid lo hi w W) := fun _ _ _ _ hs hg hr => hs.trans (Mid.grown hg fun b e => .inr (hr b e).1)
theorem ownFrom_size {B n : Nat} {β : Type} : OwnFrom B (fun (_ : β) (W : World) => n ≤ W.heap.size) := fun _ _ _ _ hs hg _ => Nat.le_trans hs hg.size
theorem ownFrom_pure' {B : Nat} {β : Type} (p : β → Prop) : OwnFrom B (fun (s : β) (_ : World) => p s) := fun _ _ _ _ hs _ _ => hs
theorem ownsRow_slice {W : World} {base : Nat} {e : TypeId} {size : Nat} {v : Value} {k : Nat} {xs : List Value} (h : W.ownsRow base e size v k xs) : ∃ a cap, v = .slice a k cap := by
  rcases h.2 with ⟨rfl, rfl⟩ | ⟨g, cap, _, rfl, _⟩
  · exact ⟨none, 0, rfl⟩
  · exact ⟨_, cap, rfl⟩
theorem two_new_cells (W : World) (a b : Value) (t : TypeId) : ∀ j u, [a, b][j]? = some u → (W.alloc (.cells #[a, b] t)).cell? ((⟨W.heap.size, 0, none⟩ : Addr).add j) = some u := by
  intro j u hj
  match j, hj with
  | 0, hj => simp [Addr.add] at hj ⊢; exact hj
  | 1, hj => simp [Addr.add] at hj ⊢; exact hj
  | j + 2, hj => simp at hj
theorem list_cut {α : Type} {ys ini : List α} {x : α} {k : Nat} (h : ini ++ [x] = ys.take k) : ini = ys.take ini.length := by
  have h2 := congrArg (List.take ini.length) h
  rw [List.take_left' rfl, List.take_take] at h2
  have h3 := congrArg List.length h
  simp at h3
  rw [Nat.min_eq_left (by omega)] at h2
  exact h2
end Go.Proofs.Ytcjnhchjikcigaa.Nx

/- What places of package terms returns: the places of a channel's terms at a position. -/
namespace Go.Proofs.Ytcjnhchjikcigaa
open Go.ChangeShapes Go.WideShapes Go.ChangeAt Go.RowKit Go.Shelf
set_option linter.unusedVariables false
def plL (k C ch h w kw t u : Int) (n : Nat) : List Int := (List.range n).map fun (i : Nat) => plA k C ch h w kw t u i
theorem plL_len (k C ch h w kw t u : Int) (n : Nat) : (plL k C ch h w kw t u n).length = n := by simp [plL]
theorem plL_succ (k C ch h w kw t u : Int) (n : Nat) : plL k C ch h w kw t u (n + 1) = plL k C ch h w kw t u n ++ [plA k C ch h w kw t u n] := by simp [plL, List.range_succ]
theorem boxed_below {w w' : World} {B : Nat} {t : TypeId} {v : Value} (h : Boxed w B t v) (k : Below w.heap.size w w') : Boxed w' B t v := (k.block B h.lt).trans h
end Go.Proofs.Ytcjnhchjikcigaa

/- A region that draws its order within a round of a loop over an iterator: it goes as outside of one; 'append' of one int as a step of such a region. -/
namespace Go.Proofs.Ytcjnhchjikcigaa
open Go.ChangeShapes Go.WideShapes Go.ChangeAt Go.RowKit Go.Shelf
set_option linter.unusedVariables false
section
variable {F : Fence} {n l : Nat} {P : Program} {ops : Array Oper} {md : Region.Mode} {Q : Exit → Act → World → Prop}
def noDefer (ops : Array Oper) : Bool := ops.toList.all fun o => match o.op with | .defer _ => false | _ => true
theorem noDefer_at (h : noDefer ops = true) {i : Nat} {o : Oper} (ho : ops[i]? = some o) : ∀ c, o.op ≠ .defer c := by
  intro c e
  have := List.all_eq_true.1 h o (Array.mem_toList_iff.2 (Array.mem_of_getElem? ho))
  rw [e] at this
  cases this
theorem op_round (h : noDefer ops = true) (hro : F.round = none) {i : Nat} {K K' : Act → World → Prop} {a : Act} {w : World} (hK : ∀ a w, K a w → K' a w) (g : wpOpIn F n P ops Q i K a w) : wpOpIn (F.inRound l) n P ops Q i K' a w := by
  refine wpOpIn_mono hK ?_
  unfold wpOpIn at g ⊢
  cases ho : ops[i]? with
  | none => rw [ho] at g; exact g
  | some o =>
    rw [ho] at g
    simp only at g ⊢
    split at g
    · rename_i hw
      rw [if_pos hw]
      unfold Oper.wpIn at g ⊢
      rw [Oper.semAt_eq _ _ _ (noDefer_at h ho)] at g ⊢
      exact g
    · rename_i hw
      rw [if_neg hw]
      exact g
theorem any_round (h : noDefer ops = true) (hro : F.round = none) : ∀ (fuel : Nat) (listed : Array Bool) (a : Act) (w : World), wpAnyIn F n P md ops Q fuel listed a w → wpAnyIn (F.inRound l) n P md ops Q fuel listed a w
  | 0, _, _, _, g => g
  | fuel + 1, _, _, _, g => ⟨g.1, fun i hi => op_round h hro (fun a w => any_round h hro fuel _ a w) (g.2 i hi)⟩
theorem region_round {id : Nat} {a : Act} {w : World} (h : noDefer ops = true) (hro : F.round = none) (hm : P.follows .mixedOrders = true) (g : wpAnyIn F n P .any ops Q ops.size (Array.replicate ops.size false) a w.drew) : (Code.region id ops true).wpIn (F.inRound l) n P Q a w :=
  wpIn_region_any hm (any_round h hro _ _ _ _ g)
end
theorem one_cell (W : World) (a : Value) (t : TypeId) : ∀ j u, [a][j]? = some u → (W.alloc (.cells #[a] t)).cell? ((⟨W.heap.size, 0, none⟩ : Addr).add j) = some u := by
  intro j u hj
  match j, hj with
  | 0, hj => simp [Addr.add] at hj ⊢; exact hj
  | j + 1, hj => simp at hj
end Go.Proofs.Ytcjnhchjikcigaa

/- What places of package terms returns of an op with a window: the places of a channel's terms at a position. -/
namespace Go.Proofs.Ytcjnhchjikcigaa
open Go.ChangeShapes Go.WideShapes Go.ChangeAt Go.RowKit Go.Shelf
set_option linter.unusedVariables false
attribute [local go_sem] Oper.semAt_some
/-- The place, whatever the tap's number is. -/
def covW (C p c : Int) : Int := if p = -1 then -1 else wrap64 (wrap64 (p * C) + c)
theorem covW_eq {C p c : Int} (hq : -1 ≤ p ∧ p ≤ 16384) (hd : 0 ≤ c ∧ c ≤ 1024) (hc : 1 ≤ C ∧ C ≤ 1024) : covW C p c = cov C p c := by
  unfold covW cov
  by_cases q1 : p = -1
  · rw [if_pos q1, if_pos q1]
  · rw [if_neg q1, if_neg q1]
    have p1 : 0 ≤ p * C := Int.mul_nonneg (by omega) (by omega)
    have p2 : p * C ≤ 16384 * 1024 := Int.mul_le_mul hq.2 hc.2 (by omega) (by omega)
    have e1 : wrap64 (p * C) = p * C := by unfold wrap64; omega
    rw [e1]
    unfold wrap64
    omega
theorem boxed_turn {W W' : World} {B : Nat} {t : TypeId} {v : Value} {row : Option Nat} (h : Boxed W B t v) (k : W.grownBy W' row) (hr : ∀ r, row = some r → ∃ o : Obj, W.heap[r]? = some o ∧ o.isCells = false) : Boxed W' B t v :=
  Go.Boxed.kept h k fun e => by
    obtain ⟨o, ho, hn⟩ := hr B e.symm
    rw [show W.heap[B]? = _ from h] at ho; cases ho; cases hn
/-- The places that go with these taps. -/
def pfl (nC : Nat) (c F : Int) (l : List (Int × Int)) : List Int := l.flatMap fun p => (List.range nC).map fun (j : Nat) => covW c p.2 (F + j)
theorem pfl_len (nC : Nat) (c F : Int) (l : List (Int × Int)) : (pfl nC c F l).length = l.length * nC := by
  induction l with
  | nil => simp [pfl]
  | cons x l ih => simp [pfl] at ih ⊢; rw [ih, Nat.add_mul]; omega
theorem pfl_snoc (nC : Nat) (c F : Int) (l : List (Int × Int)) (x : Int × Int) : pfl nC c F (l ++ [x]) = pfl nC c F l ++ (List.range nC).map fun (j : Nat) => covW c x.2 (F + j) := by simp [pfl]
theorem plA_at {k c ch h w kw t u : Int} {nC q j : Nat} (hk : k ≠ 1) (hn : (nC : Int) = chB k c ch - chF k ch) (hj : j < nC) : plA k c ch h w kw t u ((q * nC + j : Nat) : Int) = cov c (tpc h w kw t u (q : Int)) (chF k ch + (j : Int)) := by
  have e := spot_at (y := q) hj
  simp only [Prod.mk.injEq] at e
  obtain ⟨e1, e2⟩ := e
  unfold plA
  rw [if_neg hk]
  by_cases k2 : k = 2
  · rw [if_pos k2]
    have h1 : chF k ch = 0 := if_pos k2
    have h2 : chB k c ch = c := if_pos k2
    rw [h1, h2] at hn
    have hc : c = (nC : Int) := by omega
    rw [h1, hc, e1, e2, Int.zero_add]
  · rw [if_neg k2]
    have h1 : chF k ch = ch - 1 := if_neg k2
    have h2 : chB k c ch = ch := if_neg k2
    rw [h1, h2] at hn
    obtain rfl : nC = 1 := by omega
    obtain rfl : j = 0 := by omega
    rw [h1]
    simp
theorem plc_bd {h w y x : Int} (hh : 1 ≤ h ∧ h ≤ 1024) (hw : 1 ≤ w ∧ w ≤ 1024) (hm : h * w ≤ 16384) : -1 ≤ plc h w y x ∧ plc h w y x ≤ 16384 := by
  by_cases q : (0 ≤ y ∧ y < h) ∧ (0 ≤ x ∧ x < w)
  · rw [plc_in q]
    have := rowbd q.1.2 q.1.1 q.2.1 q.2.2
    omega
  · rw [plc_out q]; omega
/-- The places of all taps are those of the terms. -/
theorem pfl_tap {k c ch h w kw t u : Int} {nC : Nat} (hk : k ≠ 1) (hn : (nC : Int) = chB k c ch - chF k ch) (hF : 0 ≤ chF k ch) (hB : chB k c ch ≤ 1024) (hc : 1 ≤ c ∧ c ≤ 1024) (hh : 1 ≤ h ∧ h ≤ 1024) (hw : 1 ≤ w ∧ w ≤ 1024) (hm : h * w ≤ 16384) :
    ∀ N : Nat, pfl nC c (chF k ch) (tapL h w kw t u N) = plL k c ch h w kw t u (N * nC)
  | 0 => by simp [pfl, plL, tapL]
  | N + 1 => by
    rw [tapL_succ, pfl_snoc, pfl_tap hk hn hF hB hc hh hw hm N]
    have g : ∀ j, j ≤ nC → plL k c ch h w kw t u (N * nC + j) = plL k c ch h w kw t u (N * nC) ++ (List.range j).map fun (i : Nat) => covW c (tap h w kw t u N).2 (chF k ch + i) := by
      intro j
      induction j with
      | zero => intro _; simp
      | succ j ih =>
        intro hj
        rw [← Nat.add_assoc, plL_succ, ih (by omega), List.range_succ, List.map_append, ← List.append_assoc, plA_at hk hn (by omega)]
        rw [show (List.map (fun (i : Nat) => covW c (tap h w kw t u N).2 (chF k ch + i)) [j]) = [covW c (tap h w kw t u N).2 (chF k ch + j)] from rfl]
        rw [covW_eq (p := (tap h w kw t u N).2) (plc_bd hh hw hm) (by omega) hc]
        rfl
    rw [← g nC (Nat.le_refl _), Nat.add_mul, Nat.one_mul]
end Go.Proofs.Ytcjnhchjikcigaa
