/- What each function of package num, and the document's answer to it, returns: each for every argument that fits its type. -/
import Derived.Test.YtgimnoehagfhhaaRows
import Derived.WalkKit
import Derived.ProofKit
import Derived.OpenShut
namespace Go.Proofs.Ytgimnoehagfhhaa
open Go.ChangeShapes Go.WideShapes Go.ChangeAt Go.RowKit

/-! ### Plain numbers -/
def I64 (a : Int) : Prop := -9223372036854775808 ≤ a ∧ a ≤ 9223372036854775807
def okV (x : Int) : Int := if -9223372036854775808 ≤ x ∧ x ≤ 9223372036854775807 then x else 0
def okE (x : Int) : Int := if -9223372036854775808 ≤ x ∧ x ≤ 9223372036854775807 then 0 else 10
def clampV (x lo hi : Int) : Int := if hi < x then hi else if x < lo then lo else x
def fitsN (t x : Int) : Bool := decide (-t ≤ x ∧ x ≤ t - 1)
def wrapN (t x : Int) : Int := (x + t) % (2 * t) - t

theorem okV_in (x : Int) (h : -9223372036854775808 ≤ x ∧ x ≤ 9223372036854775807) : okV x = x := if_pos h
theorem okE_in (x : Int) (h : -9223372036854775808 ≤ x ∧ x ≤ 9223372036854775807) : okE x = 0 := if_pos h
theorem okV_out (x : Int) (h : ¬ (-9223372036854775808 ≤ x ∧ x ≤ 9223372036854775807)) : okV x = 0 := if_neg h
theorem okE_out (x : Int) (h : ¬ (-9223372036854775808 ≤ x ∧ x ≤ 9223372036854775807)) : okE x = 10 := if_neg h
theorem okV_I64 (x : Int) : I64 (okV x) := by unfold okV I64; split <;> omega
theorem okE_bd (x : Int) : 0 ≤ okE x ∧ okE x ≤ 10 := by unfold okE; split <;> omega
theorem I64_of_wf {a : Int} (h : (Lit.int .i64 a).wf = true) : I64 a := by
  have := bounds_i64 h
  unfold I64; omega
theorem ret2 {a b c d : Int} (h : a = c) (g : b = d) : Ending.returned (.tuple #[.int .i64 a, .int .i64 b]) = .returned (.tuple #[.int .i64 c, .int .i64 d]) := by rw [h, g]
theorem ret1 {k : IntKind} {a b : Int} (h : a = b) : Ending.returned (.int k a) = .returned (.int k b) := by rw [h]
theorem retB {a b : Bool} (h : a = b) : Ending.returned (.bool a) = .returned (.bool b) := by rw [h]
theorem lit8 (x : Int) : IntKind.i8.wrap x = wrapN 128 x := by show _ = (x + 128) % (2 * 128) - 128; simp [IntKind.wrap, IntKind.bits, IntKind.signed]; omega
theorem lit16 (x : Int) : IntKind.i16.wrap x = wrapN 32768 x := by show _ = (x + 32768) % (2 * 32768) - 32768; simp [IntKind.wrap, IntKind.bits, IntKind.signed]; omega
theorem lit32 (x : Int) : wrap32 x = wrapN 2147483648 x := by unfold wrap32 wrapN; omega

/-! ### Sums, differences -/
/-! ### Clamp -/
/-! ### Fits, Wrap -/

theorem fits8 (x : Int) : (wrap64 (IntKind.i8.wrap x) == x) = fitsN 128 x := by
  rw [lit8]; unfold wrap64 wrapN fitsN; rw [Bool.eq_iff_iff]; simp; omega
theorem fits16 (x : Int) : (wrap64 (IntKind.i16.wrap x) == x) = fitsN 32768 x := by
  rw [lit16]; unfold wrap64 wrapN fitsN; rw [Bool.eq_iff_iff]; simp; omega
theorem fits32 (x : Int) : (wrap64 (wrap32 x) == x) = fitsN 2147483648 x := by
  rw [lit32]; unfold wrap64 wrapN fitsN; rw [Bool.eq_iff_iff]; simp; omega
end Go.Proofs.Ytgimnoehagfhhaa
