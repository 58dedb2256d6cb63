/- What each function of package num, and the document's answer to it, returns: each for every argument that fits its type. -/
import Derived.Test.YtdpfnlefaegmeaaRows
import Derived.WalkKit
import Derived.ProofKit
import Derived.OpenShut
namespace Go.Proofs.Ytdpfnlefaegmeaa
open Go.ChangeShapes Go.WideShapes Go.ChangeAt Go.RowKit

/-! ### Plain numbers -/
def I64 (a : Int) : Prop := -9223372036854775808 ≤ a ∧ a ≤ 9223372036854775807
def okV (x : Int) : Int := if -9223372036854775808 ≤ x ∧ x ≤ 9223372036854775807 then x else 0
def okE (x : Int) : Int := if -9223372036854775808 ≤ x ∧ x ≤ 9223372036854775807 then 0 else 10
def clampV (x lo hi : Int) : Int := if hi < x then hi else if x < lo then lo else x
def fitsN (t x : Int) : Bool := decide (-t ≤ x ∧ x ≤ t - 1)
def wrapN (t x : Int) : Int := (x + t) % (2 * t) - t

theorem okV_in (x : Int) (h : -9223372036854775808 ≤ x ∧ x ≤ 9223372036854775807) : okV x = x := if_pos h
theorem okE_in (x : Int) (h : -9223372036854775808 ≤ x ∧ x ≤ 9223372036854775807) : okE x = 0 := if_pos h
theorem okV_out (x : Int) (h : ¬ (-9223372036854775808 ≤ x ∧ x ≤ 9223372036854775807)) : okV x = 0 := if_neg h
theorem okE_out (x : Int) (h : ¬ (-9223372036854775808 ≤ x ∧ x ≤ 9223372036854775807)) : okE x = 10 := if_neg h
theorem okV_I64 (x : Int) : I64 (okV x) := by unfold okV I64; split <;> omega
theorem okE_bd (x : Int) : 0 ≤ okE x ∧ okE x ≤ 10 := by unfold okE; split <;> omega
theorem I64_of_wf {a : Int} (h : (Lit.int .i64 a).wf = true) : I64 a := by
  have := bounds_i64 h
  unfold I64; omega
theorem ret2 {a b c d : Int} (h : a = c) (g : b = d) : Ending.returned (.tuple #[.int .i64 a, .int .i64 b]) = .returned (.tuple #[.int .i64 c, .int .i64 d]) := by rw [h, g]
theorem ret1 {k : IntKind} {a b : Int} (h : a = b) : Ending.returned (.int k a) = .returned (.int k b) := by rw [h]
theorem retB {a b : Bool} (h : a = b) : Ending.returned (.bool a) = .returned (.bool b) := by rw [h]
theorem lit8 (x : Int) : IntKind.i8.wrap x = wrapN 128 x := by show _ = (x + 128) % (2 * 128) - 128; simp [IntKind.wrap, IntKind.bits, IntKind.signed]; omega
theorem lit16 (x : Int) : IntKind.i16.wrap x = wrapN 32768 x := by show _ = (x + 32768) % (2 * 32768) - 32768; simp [IntKind.wrap, IntKind.bits, IntKind.signed]; omega
theorem lit32 (x : Int) : wrap32 x = wrapN 2147483648 x := by unfold wrap32 wrapN; omega

/-! ### Sums, differences -/
theorem add_any (a b : Int) (w : World) (ha : I64 a) (hb : I64 b) :
    Calls Try.prog 31 #[.int .i64 a, .int .i64 b] w fun e w' => e = .returned (.tuple #[.int .i64 (okV (a + b)), .int .i64 (okE (a + b))]) ∧ w' = w := by
  obtain ⟨a1, a2⟩ := ha
  obtain ⟨b1, b2⟩ := hb
  by_cases h : -9223372036854775808 ≤ a + b ∧ a + b ≤ 9223372036854775807
  · rw [okV_in _ h, okE_in _ h]
    obtain ⟨h1, h2⟩ := h
    by_cases c1 : a < 0 <;> by_cases c2 : b < 0
    · have c3 : a + b < 0 := by omega
      go_enter Try.func31, Try.ntmps31
      go_wp2
      go_ret2
      exact ⟨rfl, rfl⟩
    · go_enter Try.func31, Try.ntmps31
      go_wp2
      go_ret2
      exact ⟨rfl, rfl⟩
    · go_enter Try.func31, Try.ntmps31
      go_wp2
      go_ret2
      exact ⟨rfl, rfl⟩
    · have c3 : ¬ a + b < 0 := by omega
      go_enter Try.func31, Try.ntmps31
      go_wp2
      go_ret2
      exact ⟨rfl, rfl⟩
  · rw [okV_out _ h, okE_out _ h]
    by_cases c1 : a < 0
    · have c2 : b < 0 := by omega
      have c3 : ¬ wrap64 (a + b) < 0 := by unfold wrap64; omega
      clear h
      go_enter Try.func31, Try.ntmps31
      go_wp2
      go_ret2
      exact ⟨rfl, rfl⟩
    · have c2 : ¬ b < 0 := by omega
      have c3 : wrap64 (a + b) < 0 := by unfold wrap64; omega
      clear h
      go_enter Try.func31, Try.ntmps31
      go_wp2
      go_ret2
      exact ⟨rfl, rfl⟩
theorem sub_any (a b : Int) (w : World) (ha : I64 a) (hb : I64 b) :
    Calls Try.prog 32 #[.int .i64 a, .int .i64 b] w fun e w' => e = .returned (.tuple #[.int .i64 (okV (a - b)), .int .i64 (okE (a - b))]) ∧ w' = w := by
  obtain ⟨a1, a2⟩ := ha
  obtain ⟨b1, b2⟩ := hb
  by_cases h : -9223372036854775808 ≤ a - b ∧ a - b ≤ 9223372036854775807
  · rw [okV_in _ h, okE_in _ h]
    obtain ⟨h1, h2⟩ := h
    by_cases c1 : a < 0 <;> by_cases c2 : b < 0
    · go_enter Try.func32, Try.ntmps32
      go_wp2
      go_ret2
      exact ⟨rfl, rfl⟩
    · have c3 : a - b < 0 := by omega
      go_enter Try.func32, Try.ntmps32
      go_wp2
      go_ret2
      exact ⟨rfl, rfl⟩
    · have c3 : ¬ a - b < 0 := by omega
      go_enter Try.func32, Try.ntmps32
      go_wp2
      go_ret2
      exact ⟨rfl, rfl⟩
    · go_enter Try.func32, Try.ntmps32
      go_wp2
      go_ret2
      exact ⟨rfl, rfl⟩
  · rw [okV_out _ h, okE_out _ h]
    by_cases c1 : a < 0
    · have c2 : ¬ b < 0 := by omega
      have c3 : ¬ wrap64 (a - b) < 0 := by unfold wrap64; omega
      clear h
      go_enter Try.func32, Try.ntmps32
      go_wp2
      go_ret2
      exact ⟨rfl, rfl⟩
    · have c2 : b < 0 := by omega
      have c3 : wrap64 (a - b) < 0 := by unfold wrap64; omega
      clear h
      go_enter Try.func32, Try.ntmps32
      go_wp2
      go_ret2
      exact ⟨rfl, rfl⟩
/-! ### Clamp -/
theorem clamp_any (x lo hi : Int) (w : World) :
    Calls Try.prog 41 #[.int .i64 x, .int .i64 lo, .int .i64 hi] w fun e w' => e = .returned (.int .i64 (clampV x lo hi)) ∧ w' = w := by
  unfold clampV
  by_cases h : hi < x
  · rw [if_pos h]
    go_enter Try.func41, Try.ntmps41
    go_wp2
    go_ret
    exact ⟨rfl, rfl⟩
  · rw [if_neg h]
    by_cases g : x < lo
    · rw [if_pos g]
      go_enter Try.func41, Try.ntmps41
      go_wp2
      go_ret
      exact ⟨rfl, rfl⟩
    · rw [if_neg g]
      go_enter Try.func41, Try.ntmps41
      go_wp2
      go_ret
      exact ⟨rfl, rfl⟩
/-! ### Fits, Wrap -/

theorem fits8 (x : Int) : (wrap64 (IntKind.i8.wrap x) == x) = fitsN 128 x := by
  rw [lit8]; unfold wrap64 wrapN fitsN; rw [Bool.eq_iff_iff]; simp; omega
theorem fits16 (x : Int) : (wrap64 (IntKind.i16.wrap x) == x) = fitsN 32768 x := by
  rw [lit16]; unfold wrap64 wrapN fitsN; rw [Bool.eq_iff_iff]; simp; omega
theorem fits32 (x : Int) : (wrap64 (wrap32 x) == x) = fitsN 2147483648 x := by
  rw [lit32]; unfold wrap64 wrapN fitsN; rw [Bool.eq_iff_iff]; simp; omega
end Go.Proofs.Ytdpfnlefaegmeaa
