/- plain and fixed of law08. fixed of law08. -/
import Derived.Test.YtcjnhchjikcigaaGr14
/- plain and fixed of law08. -/
namespace Go.Proofs.Ytcjnhchjikcigaa
open Go.ChangeShapes Go.WideShapes Go.ChangeAt Go.RowKit
set_option linter.unusedVariables false
/-- The op of the plain model, its A being 'aa'. -/
def plO (aa : Int) (_ : Nat) (j : Nat) : Int := [1, aa, 0, 1, 0, 0, 0, 0, 0, 0, 0, 0, 2, 1, 1, 0, 0, 0, 0, 0, -128, 127].getD j 0
theorem pl_0 : gtR (plO 0) 1 1 2 (-128) 127 1 1 = (0, 0, [(1, 1, 2), (1, 1, 1)], 2) := by decide
theorem pl_1 : gtR (plO 1) 1 1 2 (-128) 127 1 1 = (82, 1, [], 0) := by decide
end Go.Proofs.Ytcjnhchjikcigaa

/- fixed of law08. -/
namespace Go.Proofs.Ytcjnhchjikcigaa
open Go.ChangeShapes Go.WideShapes Go.ChangeAt Go.RowKit
set_option linter.unusedVariables false
theorem pl_row {w : World} {g p q : Nat} {aa : Int} (h : w.heap[g]? = some (.cells #[.int .i64 1, .int .i64 aa, .int .i64 0, .int .i64 1, .int .i64 0, .int .i64 0, .int .i64 0, .int .i64 0, .int .i64 0, .int .i64 0, .int .i64 0, .int .i64 0, .slice (some ⟨p, 0, none⟩) 2 2, .slice (some ⟨q, 0, none⟩) 1 1, .int .i64 1, .int .i64 0, .int .i64 0, .int .i64 0, .int .i64 0, .int .i64 0, .int .i64 (-128), .int .i64 127] 70 (0, 0))) : MRow w (some ⟨g, 0, none⟩) 1 1 (plO aa) := by
  refine ⟨Nat.le_refl _, by unfold maxLen; omega, fun h => (by cases h), fun x hx i hi => ⟨some ⟨p, 0, none⟩, 2, 2, some ⟨q, 0, none⟩, 1, 1, rfl, rfl, fun j v hj => ?_⟩⟩
  cases hx
  obtain rfl : i = 0 := by omega
  rw [Addr.add_lit, (cells_at h).1, Nat.zero_mul, Nat.zero_add, Nat.zero_add]
  rw [← hj]
  simp [opl, plO]
theorem St.up4 {w0 w : World} {a b c d e : Nat × Array Value × TypeId} {l : List (Nat × Array Value × TypeId)} (h : St w0 w (a :: b :: c :: d :: e :: l)) : St w0 w (e :: a :: b :: c :: d :: l) :=
  h.sub fun z hz => by simp only [List.mem_cons] at *; rcases hz with h | h | h | h | h | h <;> simp [h]
theorem St.add {w0 w : World} {B : Nat} {c : Array Value} {t : TypeId} {l : List (Nat × Array Value × TypeId)} (h : St w0 w l) (hb : w.heap[B]? = some (.cells c t (0, 0))) (hB : w0.heap.size ≤ B) : St w0 w ((B, c, t) :: l) :=
  ⟨h.1, fun x hx => by
    rcases List.mem_cons.1 hx with rfl | hx
    · exact ⟨hb, hB⟩
    · exact h.2 x hx⟩
end Go.Proofs.Ytcjnhchjikcigaa
