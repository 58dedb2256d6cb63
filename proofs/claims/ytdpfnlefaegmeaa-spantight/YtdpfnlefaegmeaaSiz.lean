/- The document's size of a number, and a size with a sign: for every argument that fits its type. -/
import Derived.Test.YtdpfnlefaegmeaaNum
namespace Go.Proofs.Ytdpfnlefaegmeaa
open Go.ChangeShapes Go.WideShapes Go.ChangeAt Go.RowKit
def sizeV (x : Int) : Int := if x < 0 then -x else x
theorem sizeV_bd (x : Int) (h : I64 x) : 0 ≤ sizeV x ∧ sizeV x ≤ 9223372036854775808 := by unfold sizeV; unfold I64 at h; split <;> omega
theorem u64w (x : Int) : IntKind.u64.wrap x = x % 18446744073709551616 := by simp [IntKind.wrap, IntKind.bits, IntKind.signed]
theorem size_any (x : Int) (w : World) (h : I64 x) :
    Calls Try.prog 43 #[.int .i64 x] w fun e w' => e = .returned (.int .u64 (sizeV x)) ∧ w' = w := by
  obtain ⟨h1, h2⟩ := h
  by_cases c : x < 0
  · have HR : Hid (IntKind.u64.wrap (-IntKind.u64.wrap x) = sizeV x) := by unfold Hid sizeV; rw [u64w, u64w, if_pos c]; omega
    go_enter Try.func43, Try.ntmps43
    go_wp2
    go_ret
    exact ⟨ret1 HR.out, rfl⟩
  · have HR : Hid (x = sizeV x) := by unfold Hid sizeV; rw [if_neg c]
    go_enter Try.func43, Try.ntmps43
    go_wp2
    go_ret
    exact ⟨ret1 HR.out, rfl⟩
theorem signed_neg (p : Int) (w : World) (h1 : 0 ≤ p) (h2 : p ≤ 9223372036854775808) :
    Calls Try.prog 44 #[.int .u64 p, .bool true] w fun e w' => e = .returned (.tuple #[.int .i64 (-p), .bool true]) ∧ w' = w := by
  have HR : Hid (wrap64 (IntKind.u64.wrap (-p)) = -p) := by unfold Hid wrap64; rw [u64w]; omega
  go_enter Try.func44, Try.ntmps44
  go_wp2
  go_ret2
  exact ⟨by rw [HR.out]; rfl, rfl⟩
theorem signed_pos (p : Int) (w : World) (h1 : 0 ≤ p) (h2 : p < 9223372036854775808) :
    Calls Try.prog 44 #[.int .u64 p, .bool false] w fun e w' => e = .returned (.tuple #[.int .i64 p, .bool true]) ∧ w' = w := by
  go_enter Try.func44, Try.ntmps44
  go_wp2
  go_ret2
  exact ⟨rfl, rfl⟩
theorem signed_over (p : Int) (w : World) (h2 : 9223372036854775808 ≤ p) :
    Calls Try.prog 44 #[.int .u64 p, .bool false] w fun e w' => e = .returned (.tuple #[.int .i64 0, .bool false]) ∧ w' = w := by
  go_enter Try.func44, Try.ntmps44
  go_wp2
  go_ret2
  exact ⟨rfl, rfl⟩
end Go.Proofs.Ytdpfnlefaegmeaa
