/- What a law's walk is told of its slices, in the words of rows of bytes. -/
import Derived.Test.YtejdepnfilelbaaWirT
import Derived.Test.YtejdepnfilelbaaOpn
namespace Go.Proofs.Ytejdepnfilelbaa
open Go.ChangeShapes Go.WideShapes Go.ChangeAt Go.RowKit
theorem u8_of_wf {a : Int} (h : (Lit.int .u8 a).wf = true) : 0 ≤ a ∧ a < 256 := by
  simp [Lit.wf, IntKind.min, IntKind.max, IntKind.bits, IntKind.signed] at h
  omega
theorem u64_of_wf {a : Int} (h : (Lit.int .u64 a).wf = true) : 0 ≤ a ∧ a < 18446744073709551616 := by
  simp [Lit.wf, IntKind.min, IntKind.max, IntKind.bits, IntKind.signed] at h
  omega
theorem i64_of_wf {a : Int} (h : (Lit.int .i64 a).wf = true) : -9223372036854775808 ≤ a ∧ a ≤ 9223372036854775807 := by
  simp [Lit.wf, IntKind.min, IntKind.max, IntKind.bits, IntKind.signed] at h
  omega
theorem IRow.row {w : World} {a : Option Addr} {len cap : Nat} {zs : List Int} (h : IRow .u8 w a len cap zs) : Row w a len cap zs :=
  ⟨h.1, h.2.1, h.2.2.1, fun z hz => u8_of_wf (h.2.2.2.1 z hz), h.2.2.2.2.1, h.2.2.2.2.2⟩
theorem PRow.at {w w' : World} {a : Option Addr} {len cap : Nat} {os : List (Int × Int)} (h : PRow .i64 .i64 w a len cap os) (k : Below w.heap.size w w') {i : Nat} (hi : i < len) :
    ∃ x p q, a = some x ∧ w'.cell? (x.add (i * 2)) = some (.int .i64 p) ∧ w'.cell? ⟨(x.add (i * 2)).block, (x.add (i * 2)).off + 1, none⟩ = some (.int .i64 q) ∧ -9223372036854775808 ≤ q ∧ q ≤ 9223372036854775807 := by
  obtain ⟨h1, h2, h3, h4, h5, h6⟩ := h
  cases a with
  | none => have := h5 rfl; omega
  | some x =>
    obtain ⟨c0, c1⟩ := h6 x rfl i hi
    have hw : (Lit.int .i64 (os.getD i (0, 0)).2).wf = true := by
      have : os.getD i (0, 0) ∈ os := by rw [List.getD_eq_getElem?_getD, List.getElem?_eq_getElem (by omega), Option.getD_some]; exact List.getElem_mem _
      exact (h4 _ this).2
    have c1' := (k.cell (World.block_lt_of_cell? w _ c1)).trans c1
    rw [← Addr.add_add] at c1'
    exact ⟨x, _, _, rfl, (k.cell (World.block_lt_of_cell? w _ c0)).trans c0, c1', i64_of_wf hw⟩
theorem PRow.nn {w : World} {a : Option Addr} {len cap : Nat} {os : List (Int × Int)} (h : PRow .i64 .i64 w a len cap os) : len ≤ cap ∧ cap ≤ 9223372036854775807 := by
  have := h.2.2.1
  unfold maxLen at this
  exact ⟨h.2.1, by omega⟩
theorem rd_new (w : World) {a : Option Addr} {len cap : Nat} {zs : List Int} (h : Row w a len cap zs) (f : Int) (T : TypeId) : Rd (w.alloc (.cells #[.slice a len cap, .int .i64 f] T)) w.heap.size T zs f :=
  ⟨a, len, cap, heap_alloc_new w _, h.below (bal w _)⟩
/-- A block that was new stays through a call that writes two others. -/
theorem Kept.cells {L : List Nat} {w w' : World} {c : Array Value} {T : TypeId} (k : Kept L (w.alloc (.cells c T)) w') (hL : ∀ B ∈ L, B < w.heap.size) : ∀ i, w'.cell? ⟨w.heap.size, i, none⟩ = c[i]? := by
  intro i
  have h2 := k.2.2.2.2 w.heap.size (by simp) (fun h => by have := hL _ h; omega)
  rw [World.cell?_of_block (a := ⟨w.heap.size, i, none⟩) h2]
  exact (cells_at (T := T) (heap_alloc_new w (.cells c T))).1 i
end Go.Proofs.Ytejdepnfilelbaa
