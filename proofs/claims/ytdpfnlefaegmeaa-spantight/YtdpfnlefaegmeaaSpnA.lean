/- What Make, Valid, Has, Holds and fromEnds of package span return: each for every argument that fits its type. -/
import Derived.Test.YtdpfnlefaegmeaaFixC
namespace Go.Proofs.Ytdpfnlefaegmeaa
open Go.ChangeShapes Go.WideShapes Go.ChangeAt Go.RowKit
def vB (a b : Int) : Bool := decide (a ≤ b)
def hasB (a b x : Int) : Bool := decide (a ≤ x ∧ x ≤ b)
def hoB (a b c d : Int) : Bool := decide (c ≤ d ∧ a ≤ c ∧ d ≤ b)
def mkR (a b : Int) : Int × Int × Int := if a ≤ b then (a, b, 0) else (0, 0, 30)
def enR (a e b f : Int) : Int × Int × Int := if e = 0 then (if f = 0 then (a, b, 0) else (0, 0, f)) else (0, 0, e)
theorem vB_yes {a b : Int} (h : vB a b = true) : a ≤ b := by simpa [vB] using h
theorem vB_no {a b : Int} (h : vB a b = false) : ¬ a ≤ b := by simpa [vB] using h
theorem svalid_any (a b : Int) (w : World) :
    Calls Try.prog 12 #[.agg #[.int .i64 a, .int .i64 b]] w fun e w' => e = .returned (.bool (vB a b)) ∧ Below w.heap.size w w' := by
  have HR : Hid (decide (a ≤ b) = vB a b) := by unfold Hid vB; rfl
  go_enter Try.func12, Try.ntmps12
  go_wp2
  go_ret
  exact ⟨retB HR.out, (Below.refl _ _).alloc (Nat.le_refl _) _⟩
theorem srefvalid_any (a b : Int) (w : World) :
    Calls Try.prog 11 #[.agg #[.int .i64 a, .int .i64 b]] w fun e w' => e = .returned (.bool (vB a b)) ∧ Below w.heap.size w w' := by
  have HR : Hid (decide (a ≤ b) = vB a b) := by unfold Hid vB; rfl
  go_enter Try.func11, Try.ntmps11
  go_wp2
  go_ret
  exact ⟨retB HR.out, (Below.refl _ _).alloc (Nat.le_refl _) _⟩
theorem shas_any (a b x : Int) (w : World) :
    Calls Try.prog 13 #[.agg #[.int .i64 a, .int .i64 b], .int .i64 x] w fun e w' => e = .returned (.bool (hasB a b x)) ∧ Below w.heap.size w w' := by
  by_cases c : a ≤ x
  · have HR : Hid (decide (x ≤ b) = hasB a b x) := by unfold Hid hasB; simp [c]
    go_enter Try.func13, Try.ntmps13
    go_wp2
    go_ret
    exact ⟨retB HR.out, (Below.refl _ _).alloc (Nat.le_refl _) _⟩
  · have HR : Hid (false = hasB a b x) := by unfold Hid hasB; simp [c]
    go_enter Try.func13, Try.ntmps13
    go_wp2
    go_ret
    exact ⟨retB HR.out, (Below.refl _ _).alloc (Nat.le_refl _) _⟩
theorem srefhas_any (a b x : Int) (w : World) :
    Calls Try.prog 14 #[.agg #[.int .i64 a, .int .i64 b], .int .i64 x] w fun e w' => e = .returned (.bool (hasB a b x)) ∧ Below w.heap.size w w' := by
  by_cases c : a ≤ x
  · have HR : Hid (decide (x ≤ b) = hasB a b x) := by unfold Hid hasB; simp [c]
    go_enter Try.func14, Try.ntmps14
    go_wp2
    go_ret
    exact ⟨retB HR.out, (Below.refl _ _).alloc (Nat.le_refl _) _⟩
  · have HR : Hid (false = hasB a b x) := by unfold Hid hasB; simp [c]
    go_enter Try.func14, Try.ntmps14
    go_wp2
    go_ret
    exact ⟨retB HR.out, (Below.refl _ _).alloc (Nat.le_refl _) _⟩
theorem smake_any (a b : Int) (w : World) :
    Calls Try.prog 9 #[.int .i64 a, .int .i64 b] w fun e w' => e = .returned (.tuple #[.agg #[.int .i64 (mkR a b).1, .int .i64 (mkR a b).2.1], .int .i64 (mkR a b).2.2]) ∧ Below w.heap.size w w' := by
  unfold mkR
  by_cases c : a ≤ b
  · rw [if_pos c]
    go_enter Try.func9, Try.ntmps9
    go_wp2
    exact bodyPost_ret (v := .tuple #[.agg #[.int .i64 a, .int .i64 b], .int .i64 0]) (by simp [results, Try.results9, go_sem]) rfl ⟨rfl, (Below.refl _ _).alloc (Nat.le_refl _) _⟩
  · rw [if_neg c]
    go_enter Try.func9, Try.ntmps9
    go_wp2
    exact bodyPost_ret (v := .tuple #[.agg #[.int .i64 0, .int .i64 0], .int .i64 30]) (by simp [results, Try.results9, go_sem]) rfl ⟨rfl, (Below.refl _ _).alloc (Nat.le_refl _) _⟩
theorem sends_any (a e b f : Int) (w : World) :
    Calls Try.prog 34 #[.int .i64 a, .int .i64 e, .int .i64 b, .int .i64 f] w fun x w' => x = .returned (.tuple #[.agg #[.int .i64 (enR a e b f).1, .int .i64 (enR a e b f).2.1], .int .i64 (enR a e b f).2.2]) ∧ Below w.heap.size w w' := by
  unfold enR
  by_cases c : e = 0
  · subst c
    rw [if_pos rfl]
    by_cases d : f = 0
    · subst d
      rw [if_pos rfl]
      go_enter Try.func34, Try.ntmps34
      go_wp2
      exact bodyPost_ret (v := .tuple #[.agg #[.int .i64 a, .int .i64 b], .int .i64 0]) (by simp [results, Try.results34, go_sem]) rfl ⟨rfl, (Below.refl _ _).alloc (Nat.le_refl _) _⟩
    · rw [if_neg d]
      go_enter Try.func34, Try.ntmps34
      go_wp2
      exact bodyPost_ret (v := .tuple #[.agg #[.int .i64 0, .int .i64 0], .int .i64 f]) (by simp [results, Try.results34, go_sem]) rfl ⟨rfl, (Below.refl _ _).alloc (Nat.le_refl _) _⟩
  · rw [if_neg c]
    go_enter Try.func34, Try.ntmps34
    go_wp2
    exact bodyPost_ret (v := .tuple #[.agg #[.int .i64 0, .int .i64 0], .int .i64 e]) (by simp [results, Try.results34, go_sem]) rfl ⟨rfl, (Below.refl _ _).alloc (Nat.le_refl _) _⟩
end Go.Proofs.Ytdpfnlefaegmeaa
