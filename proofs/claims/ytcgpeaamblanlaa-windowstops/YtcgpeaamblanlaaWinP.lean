/- The iterator of Positions: called with whatever round, it gives each position's row and column in their order, till it is told to stop. -/
import Derived.Test.YtcgpeaamblanlaaWinT
namespace Go.Proofs.Ytcgpeaamblanlaa
open Go.ChangeShapes Go.WideShapes Go.ChangeAt Go.RowKit Go.Shelf
attribute [local go_sem] Oper.semAt_some
theorem spot_at {q y x : Nat} (hx : x < q) : (((y * q + x : Nat) : Int) / (q : Int), ((y * q + x : Nat) : Int) % (q : Int)) = ((y : Int), (x : Int)) := by
  have e1 : ((y * q + x : Nat) : Int) / (q : Int) = y := by
    rw [← Int.natCast_ediv]
    congr 1
    rw [Nat.mul_comm, Nat.mul_add_div (by omega), Nat.div_eq_of_lt hx, Nat.add_zero]
  have e2 : ((y * q + x : Nat) : Int) % (q : Int) = x := by
    rw [← Int.natCast_emod]
    congr 1
    rw [Nat.mul_comm, Nat.mul_add_mod, Nat.mod_eq_of_lt hx]
  rw [e1, e2]
set_option maxRecDepth 100000 in
set_option maxHeartbeats 4000000 in
theorem spots1_in (m : Nat) (l B1 B2 : Nat) (r q : Nat) (J Jx : List (Int × Int) → World → Prop) (W : World) (hr : r ≤ 1200) (hq : q ≤ 1200)
    (hY : ∀ pre x W1, J pre W1 → pre.length < r * q → YieldAt Fence.wide (m - 1) Try.prog l #[.int .i64 x.1, .int .i64 x.2] W1 fun e W' =>
      (e = .returned (.bool true) ∧ J (pre ++ [x]) W' ∧ Kept [B2] W1 W') ∨ (e = .returned (.bool false) ∧ Jx (pre ++ [x]) W'))
    (c1 : W.heap[B1]? = some (.cells #[.int .i64 r] 3 (0, 0))) (c2 : W.heap[B2]? = some (.cells #[.int .i64 q] 3 (0, 0))) (h0 : J [] W) :
    CallsIn Fence.wide m Try.prog 30 #[.func (.yield l) #[] #[], .pointer (some ⟨B1, 0, none⟩), .pointer (some ⟨B2, 0, none⟩)] W fun e W' => (∃ v, e = .returned v) ∧
      ((∃ ys, ys = spotL q (r * q) ∧ J ys W') ∨ (∃ pre, (∃ k, k ≤ r * q ∧ pre = spotL q k) ∧ Jx pre W')) := by
  have r1 : W.cell? ⟨B1, 0, none⟩ = some (.int .i64 r) := by simp [World.cell?, c1]
  have hfn : ∀ f, Fence.wide.fn f := fun _ => trivial
  have hdp : Fence.wide.depth = none := rfl
  refine callsIn_of_wp Try.func30 rfl trivial ?_ rfl
  simp only [Try.ntmps30, List.size_toArray, List.length_cons, List.length_nil, Nat.reduceAdd, Nat.reduceSub, Array.replicate_succ, Array.replicate_zero, List.push_toArray, List.append_toArray, List.nil_append, List.cons_append]
  gi_wp2
  gi_loopw [7] (fun i wr => ∃ y : Nat, y ≤ r ∧ i = .int .i64 y ∧ J (spotL q (y * q)) wr ∧ Kept [B2] W wr)
    (fun i _ => r - (intOf i).toNat)
  case atStart => exact ⟨0, Nat.zero_le _, rfl, by simpa [spotL] using h0, Kept.refl _ _⟩
  case round =>
    obtain ⟨y, hy, rfl, hJs, hkp⟩ := hrel
    by_cases hlt : y < r
    · have d2 := hkp B2 (by simp) _ _ c2
      have r2 : wr.cell? ⟨B2, 0, none⟩ = some (.int .i64 q) := by simp [World.cell?, d2]
      gi_wp2
      gi_loopw [11] (fun i wr' => ∃ x : Nat, x ≤ q ∧ i = .int .i64 x ∧ J (spotL q (y * q + x)) wr' ∧ Kept [B2] W wr')
        (fun i _ => q - (intOf i).toNat)
      case atStart => exact ⟨0, Nat.zero_le _, rfl, hJs, hkp⟩
      case round =>
        obtain ⟨x, hx, rfl, hJs2, hkp2⟩ := hrel
        by_cases hlt2 : x < q
        · have hb : y * q + x < r * q := by
            have := Nat.mul_le_mul_right q (show y + 1 ≤ r by omega)
            rw [Nat.add_mul] at this
            omega
          obtain ⟨fn, tmps, assign, body, hyy, hR⟩ := hY (spotL q (y * q + x)) ((y : Int), (x : Int)) _ hJs2 (by rw [spotL_len]; exact hb)
          rw [← spot_at hlt2, ← spotL_succ] at hR
          dsimp only at hyy
          gi_wp2
          refine hR.mono ?_
          rintro e W3 (⟨rfl, hJ3, hk3⟩ | ⟨rfl, hJx3⟩)
          · gi_wp2
            go_roundw
            case rel => exact ⟨x + 1, by omega, by simp, hJ3, hkp2.trans hk3⟩
            case measure => simp [intOf]; omega
          · gi_wp2
            refine bodyPost_ret (results_none rfl _ _ _) rfl ?_
            exact ⟨⟨_, rfl⟩, .inr ⟨_, ⟨y * q + x + 1, by omega, rfl⟩, hJx3⟩⟩
        · obtain rfl : x = q := by omega
          gi_wp2
          go_roundw
          case rel => exact ⟨y + 1, by omega, by simp, by rw [Nat.add_mul, Nat.one_mul]; exact hJs2, hkp2⟩
          case measure => simp [intOf]; omega
    · obtain rfl : y = r := by omega
      gi_wp2
      go_end0
      exact ⟨⟨_, rfl⟩, .inl ⟨_, rfl, hJs⟩⟩
end Go.Proofs.Ytcgpeaamblanlaa
