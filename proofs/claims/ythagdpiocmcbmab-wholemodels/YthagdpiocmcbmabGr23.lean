/- fixed of law08. -/
import Derived.Test.YthagdpiocmcbmabGr18
/- fixed of law08. -/
namespace Go.Proofs.Ythagdpiocmcbmab
open Go.ChangeShapes Go.WideShapes Go.ChangeAt Go.RowKit
set_option linter.unusedVariables false
theorem pl_row {w : World} {g p q : Nat} {aa : Int} (h : w.heap[g]? = some (.cells #[.int .i64 1, .int .i64 aa, .int .i64 0, .int .i64 1, .int .i64 0, .int .i64 0, .int .i64 0, .int .i64 0, .int .i64 0, .int .i64 0, .int .i64 0, .int .i64 0, .slice (some ⟨p, 0, none⟩) 2 2, .slice (some ⟨q, 0, none⟩) 1 1, .int .i64 1, .int .i64 0, .int .i64 0, .int .i64 0, .int .i64 0, .int .i64 0, .int .i64 (-128), .int .i64 127] 57 (0, 0))) : MRow w (some ⟨g, 0, none⟩) 1 1 (plO aa) := by
  refine ⟨Nat.le_refl _, by unfold maxLen; omega, fun h => (by cases h), fun x hx i hi => ⟨some ⟨p, 0, none⟩, 2, 2, some ⟨q, 0, none⟩, 1, 1, rfl, rfl, fun j v hj => ?_⟩⟩
  cases hx
  obtain rfl : i = 0 := by omega
  rw [Addr.add_lit, (cells_at h).1, Nat.zero_mul, Nat.zero_add, Nat.zero_add]
  rw [← hj]
  simp [opl, plO]
theorem St.up4 {w0 w : World} {a b c d e : Nat × Array Value × TypeId} {l : List (Nat × Array Value × TypeId)} (h : St w0 w (a :: b :: c :: d :: e :: l)) : St w0 w (e :: a :: b :: c :: d :: l) :=
  h.sub fun z hz => by simp only [List.mem_cons] at *; rcases hz with h | h | h | h | h | h <;> simp [h]
theorem St.add {w0 w : World} {B : Nat} {c : Array Value} {t : TypeId} {l : List (Nat × Array Value × TypeId)} (h : St w0 w l) (hb : w.heap[B]? = some (.cells c t (0, 0))) (hB : w0.heap.size ≤ B) : St w0 w ((B, c, t) :: l) :=
  ⟨h.1, fun x hx => by
    rcases List.mem_cons.1 hx with rfl | hx
    · exact ⟨hb, hB⟩
    · exact h.2 x hx⟩
end Go.Proofs.Ythagdpiocmcbmab
