/- The document's Add, Sub, Fits, Sat, Wrap, Clamp; the statement's fixed answers: each for every argument that fits its type. -/
import Derived.Test.YtdpfnlefaegmeaaNumB
namespace Go.Proofs.Ytdpfnlefaegmeaa
open Go.ChangeShapes Go.WideShapes Go.ChangeAt Go.RowKit

theorem refadd_any (a b : Int) (w : World) (ha : I64 a) (hb : I64 b) :
    Calls Try.prog 35 #[.int .i64 a, .int .i64 b] w fun e w' => e = .returned (.tuple #[.int .i64 (okV (a + b)), .int .i64 (okE (a + b))]) ∧ w' = w := by
  obtain ⟨a1, a2⟩ := ha
  obtain ⟨b1, b2⟩ := hb
  by_cases c1 : 0 < b
  · by_cases c2 : 9223372036854775807 - b < a
    · rw [okV_out _ (by omega), okE_out _ (by omega)]
      go_enter Try.func35, Try.ntmps35
      go_wp2
      go_ret2
      exact ⟨rfl, rfl⟩
    · rw [okV_in _ (by omega), okE_in _ (by omega)]
      have c3 : ¬ b < 0 := by omega
      go_enter Try.func35, Try.ntmps35
      go_wp2
      go_ret2
      exact ⟨rfl, rfl⟩
  · by_cases c2 : b < 0
    · by_cases c3 : a < -9223372036854775808 - b
      · rw [okV_out _ (by omega), okE_out _ (by omega)]
        go_enter Try.func35, Try.ntmps35
        go_wp2
        go_ret2
        exact ⟨rfl, rfl⟩
      · rw [okV_in _ (by omega), okE_in _ (by omega)]
        go_enter Try.func35, Try.ntmps35
        go_wp2
        go_ret2
        exact ⟨rfl, rfl⟩
    · rw [okV_in _ (by omega), okE_in _ (by omega)]
      go_enter Try.func35, Try.ntmps35
      go_wp2
      go_ret2
      exact ⟨rfl, rfl⟩
theorem refsub_any (a b : Int) (w : World) (ha : I64 a) (hb : I64 b) :
    Calls Try.prog 37 #[.int .i64 a, .int .i64 b] w fun e w' => e = .returned (.tuple #[.int .i64 (okV (a - b)), .int .i64 (okE (a - b))]) ∧ w' = w := by
  obtain ⟨a1, a2⟩ := ha
  obtain ⟨b1, b2⟩ := hb
  by_cases c1 : b < 0
  · by_cases c2 : 9223372036854775807 + b < a
    · rw [okV_out _ (by omega), okE_out _ (by omega)]
      go_enter Try.func37, Try.ntmps37
      go_wp2
      go_ret2
      exact ⟨rfl, rfl⟩
    · rw [okV_in _ (by omega), okE_in _ (by omega)]
      have c3 : ¬ 0 < b := by omega
      go_enter Try.func37, Try.ntmps37
      go_wp2
      go_ret2
      exact ⟨rfl, rfl⟩
  · by_cases c2 : 0 < b
    · by_cases c3 : a < -9223372036854775808 + b
      · rw [okV_out _ (by omega), okE_out _ (by omega)]
        go_enter Try.func37, Try.ntmps37
        go_wp2
        go_ret2
        exact ⟨rfl, rfl⟩
      · rw [okV_in _ (by omega), okE_in _ (by omega)]
        go_enter Try.func37, Try.ntmps37
        go_wp2
        go_ret2
        exact ⟨rfl, rfl⟩
    · rw [okV_in _ (by omega), okE_in _ (by omega)]
      go_enter Try.func37, Try.ntmps37
      go_wp2
      go_ret2
      exact ⟨rfl, rfl⟩
theorem refclamp_any (x lo hi : Int) (w : World) :
    Calls Try.prog 42 #[.int .i64 x, .int .i64 lo, .int .i64 hi] w fun e w' => e = .returned (.int .i64 (clampV x lo hi)) ∧ w' = w := by
  unfold clampV
  by_cases h : hi < x
  · rw [if_pos h]
    go_enter Try.func42, Try.ntmps42
    go_wp2
    go_ret
    exact ⟨rfl, rfl⟩
  · rw [if_neg h]
    by_cases g : x < lo
    · rw [if_pos g]
      go_enter Try.func42, Try.ntmps42
      go_wp2
      go_ret
      exact ⟨rfl, rfl⟩
    · rw [if_neg g]
      go_enter Try.func42, Try.ntmps42
      go_wp2
      go_ret
      exact ⟨rfl, rfl⟩
end Go.Proofs.Ytdpfnlefaegmeaa
