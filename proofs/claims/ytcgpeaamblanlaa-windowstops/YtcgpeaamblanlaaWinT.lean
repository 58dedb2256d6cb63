/- The iterator of Taps: called with whatever round, it gives each tap in its order, till it is told to stop. -/
import Derived.Test.YtcgpeaamblanlaaWinB
import Derived.Test.YtcgpeaamblanlaaTail
import Derived.RangeFuncNested
import Derived.RangeFuncBound
import Derived.RangeFuncCalls
import Derived.RangeFuncLeaves
import Derived.Shelf.Abstract
import Derived.Shelf.RegionOpen
import Derived.WalkKit
import Derived.OwnWalkIn
import Derived.TacticsInMore
import Derived.LoopNIn
import Derived.LoopIn
namespace Go.Proofs.Ytcgpeaamblanlaa
open Go.ChangeShapes Go.WideShapes Go.ChangeAt Go.RowKit Go.Shelf
attribute [local go_sem] Oper.semAt_some
/-- What a round keeps: the listed blocks. -/
def Kept (l : List Nat) (W W' : World) : Prop := ∀ b ∈ l, ∀ c t, W.heap[b]? = some (.cells c t (0, 0)) → W'.heap[b]? = some (.cells c t (0, 0))
theorem Kept.refl (l : List Nat) (W : World) : Kept l W W := fun _ _ _ _ h => h
theorem Kept.trans {l : List Nat} {A B C : World} (h : Kept l A B) (k : Kept l B C) : Kept l A C := fun b hb c t hc => k b hb c t (h b hb c t hc)
theorem Kept.put {l : List Nat} (W : World) (i : Nat) (o o' : Obj) (h : W.heap[i]? = some o) (ho : o.isCells = false) : Kept l W (W.putObj i o') := fun b _ _ _ hc => by
  by_cases e : b = i
  · subst e; rw [h] at hc; cases hc; cases ho
  · rw [World.putObj_heap_other e]; exact hc
theorem Kept.below {l : List Nat} {W W' : World} (h : Below W.heap.size W W') : Kept l W W' := fun b _ _ _ hc => (h.block b (lt_of_heap hc)).trans hc
theorem Kept.grown {l : List Nat} {W W' : World} {g : Option Nat} (h : W.grownBy W' g) (hg : ∀ b, g = some b → b ∉ l) : Kept l W W' := fun b hb _ _ hc => (h.block b (lt_of_heap hc) (fun e => hg b e.symm hb)).trans hc
/-- A world in which all that lay in W lies as it lay. -/
def Wn (W : World) : Type := Subtype fun w : World => Below W.heap.size W w
def Wn.w {W : World} (n : Wn W) : World := n.1
theorem Wn.h {W : World} (n : Wn W) : Below W.heap.size W n.w := n.2
def Wn.mk {W : World} (w : World) (h : Below W.heap.size W w) : Wn W := Subtype.mk w h
theorem Wn.rule {W : World} {B : Nat} {c : Array Value} {t : TypeId} (h : W.heap[B]? = some (.cells c t (0, 0))) : ∀ (n : Wn W) (i : Nat), n.w.cell? ⟨B, i, none⟩ = c[i]? := fun n i => by
  have h0 : n.w.heap[B]? = some (.cells c t (0, 0)) := (n.h.block B (lt_of_heap h)).trans h
  simp [World.cell?, h0]
theorem wn_call {f : FuncId} {args : Array Value} {W : World} {n : Wn W} {m : Nat} {v : Value}
    (h : Calls Try.prog f args n.w fun e w' => e = .returned v ∧ Below n.w.heap.size n.w w') : CallsIn Fence.wide m Try.prog f args n.w fun e w'' => e = .returned v ∧ ∃ k : Wn W, w'' = k.w :=
  callsIn_wide.2 (h.mono fun _ _ ⟨he, hb⟩ => ⟨he, Wn.mk _ (n.h.trans (hb.mono n.h.size)), rfl⟩)
theorem grownBy_of_below {W W' : World} (k : Below W.heap.size W W') : W.grownBy W' none := ⟨k.os, k.tape, k.output, k.size, fun i hi _ => k.block i hi⟩
theorem abides_below {β : Type} {B : Nat} {J : β → World → Prop} (hJ : AbidesFrom B J) {s : β} {W W' : World} (h : J s W) (k : Below W.heap.size W W') : J s W' :=
  hJ s W W' none h (grownBy_of_below k) (fun r e => by cases e)
set_option maxRecDepth 100000 in
set_option maxHeartbeats 4000000 in
theorem taps1_in (m : Nat) (l B1 B2 B3 B4 B5 : Nat) (h w c kh kw sh sw tp lf bt rt t u : Int) (N : Nat) (J Jx : List (Int × Int) → World → Prop) (W : World)
    (hC : N = 0 ∨ Cor h w kh kw t u ∧ N = (kh * kw).toNat)
    (hJ : AbidesFrom W.heap.size J)
    (hY : ∀ pre x W1, J pre W1 → pre.length < N → YieldAt Fence.wide (m - 1) Try.prog l #[.int .i64 x.1, .int .i64 x.2] W1 fun e W' =>
      (e = .returned (.bool true) ∧ J (pre ++ [x]) W' ∧ Kept [B2, B3, B4, B5] W1 W') ∨ (e = .returned (.bool false) ∧ Jx (pre ++ [x]) W'))
    (c1 : W.heap[B1]? = some (.cells #[.int .i64 N] 3 (0, 0))) (c2 : W.heap[B2]? = some (.cells #[.int .i64 h, .int .i64 w, .int .i64 c] 23 (0, 0))) (c3 : W.heap[B3]? = some (.cells #[.int .i64 t] 3 (0, 0)))
    (c4 : W.heap[B4]? = some (.cells #[.int .i64 kh, .int .i64 kw, .int .i64 sh, .int .i64 sw, .int .i64 tp, .int .i64 lf, .int .i64 bt, .int .i64 rt] 25 (0, 0))) (c5 : W.heap[B5]? = some (.cells #[.int .i64 u] 3 (0, 0))) (h0 : J [] W) :
    CallsIn Fence.wide m Try.prog 28 #[.func (.yield l) #[] #[], .pointer (some ⟨B1, 0, none⟩), .pointer (some ⟨B2, 0, none⟩), .pointer (some ⟨B3, 0, none⟩), .pointer (some ⟨B4, 0, none⟩), .pointer (some ⟨B5, 0, none⟩)] W fun e W' => (∃ v, e = .returned v) ∧
      ((∃ ys, ys = tapL h w kw t u N ∧ J ys W') ∨ (∃ pre, (∃ k, k ≤ N ∧ pre = tapL h w kw t u k) ∧ Jx pre W')) := by
  have r1 : W.cell? ⟨B1, 0, none⟩ = some (.int .i64 N) := by simp [World.cell?, c1]
  refine callsIn_of_wp Try.func28 rfl trivial ?_ rfl
  simp only [Try.ntmps28, List.size_toArray, List.length_cons, List.length_nil, Nat.reduceAdd, Nat.reduceSub, Array.replicate_succ, Array.replicate_zero, List.push_toArray, List.append_toArray, List.nil_append, List.cons_append]
  gi_wp2
  gi_loopw [9] (fun i wr => ∃ k : Nat, k ≤ N ∧ i = .int .i64 k ∧ J (tapL h w kw t u k) wr ∧ Kept [B2, B3, B4, B5] W wr)
    (fun i _ => N - (intOf i).toNat)
  case atStart => exact ⟨0, Nat.zero_le _, rfl, h0, Kept.refl _ _⟩
  case round =>
    obtain ⟨k, hk, rfl, hJs, hkp⟩ := hrel
    by_cases hlt : k < N
    · rcases hC with rfl | ⟨⟨h1, w1, q9, k1, k2, t1, u1⟩, hN⟩
      · omega
      have d2 := hkp B2 (by simp) _ _ c2
      have d3 := hkp B3 (by simp) _ _ c3
      have d4 := hkp B4 (by simp) _ _ c4
      have d5 := hkp B5 (by simp) _ _ c5
      have e2 := Wn.rule d2
      have e3 := Wn.rule d3
      have e4 := Wn.rule d4
      have e5 := Wn.rule d5
      have p1 := Int.ediv_nonneg (show (0 : Int) ≤ k by omega) (show 0 ≤ kw by omega)
      have p3 := Int.mul_nonneg (show 0 ≤ kh by omega) (show 0 ≤ kw by omega)
      have p2 : (k : Int) / kw < kh := Int.ediv_lt_of_lt_mul (by omega) (by omega)
      have p4 := Int.emod_nonneg (k : Int) (show kw ≠ 0 by omega)
      have p5 := Int.emod_lt_of_pos (k : Int) (show 0 < kw by omega)
      have t6 := td (c := kw) (show (0 : Int) ≤ k by omega)
      have t7 := tm (c := kw) (show (0 : Int) ≤ k by omega)
      obtain ⟨d, hd⟩ : ∃ d, (k : Int) / kw = d := ⟨_, rfl⟩
      obtain ⟨e, he⟩ : ∃ e, (k : Int) % kw = e := ⟨_, rfl⟩
      have HT : Hid (tap h w kw t u k = ((k : Int), plc h w (t + d) (u + e))) := by unfold Hid tap; rw [hd, he]
      rw [hd] at p1 p2 t6
      rw [he] at p4 p5 t7
      have kw0 : ¬ kw = 0 := by omega
      have kN : N ≤ 1024 := by
        have := Int.mul_le_mul k1.2 k2.2 (by omega) (by omega)
        omega
      have HN : Hid (N = (kh * kw).toNat) := hN
      clear hd he hN p3
      have hfn : ∀ f, Fence.wide.fn f := fun _ => trivial
      have hdp : Fence.wide.depth = none := rfl
      have hne : Nonempty (Wn wr) := ⟨Wn.mk wr (Below.refl _ _)⟩
      gi_wp2
      refine region_tail_at 16 (C := fun w' => ∃ n : Wn wr, w' = n.w) rfl rfl (by kernel_rfl) (by kernel_rfl) ⟨Wn.mk _ (Below.refl _ _).drew, rfl⟩ ?_
      simp only [List.take_succ_cons, List.take_zero, List.drop_succ_cons, List.drop_zero]
      repeat (gi_big_quiet_step (exact wn_call (place_any _ _ _ _ _ _ (by omega) (by omega) h1 w1)))
      refine wpQuietIn_nil ?_
      rintro _ ⟨n, rfl⟩
      obtain ⟨fn, tmps, assign, body, hy, hR⟩ := hY (tapL h w kw t u k) (tap h w kw t u k) n.w (abides_below hJ hJs n.h) (by rw [tapL_len]; exact hlt)
      rw [← tapL_succ] at hR
      rw [HT.out] at hy
      dsimp only at hy
      gi_wp2
      refine hR.mono ?_
      rintro e W3 (⟨rfl, hJ3, hk3⟩ | ⟨rfl, hJx3⟩)
      · gi_wp2
        go_roundw
        case rel => exact ⟨k + 1, by omega, by simp, hJ3, (hkp.trans (Kept.below n.h)).trans hk3⟩
        case measure => simp [intOf]; omega
      · gi_wp2
        refine bodyPost_ret (results_none rfl _ _ _) rfl ?_
        exact ⟨⟨_, rfl⟩, .inr ⟨_, ⟨k + 1, by omega, rfl⟩, hJx3⟩⟩
    · obtain rfl : k = N := by omega
      gi_wp2
      go_end0
      exact ⟨⟨_, rfl⟩, .inl ⟨_, rfl, hJs⟩⟩
end Go.Proofs.Ytcgpeaamblanlaa
