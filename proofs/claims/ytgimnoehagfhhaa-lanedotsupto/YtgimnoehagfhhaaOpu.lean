/- A field that is a slice of integers, and that it is no longer than the reading's bulk. -/
import Derived.Test.YtgimnoehagfhhaaOpo
namespace Go.Proofs.Ytgimnoehagfhhaa
open Go.ChangeShapes Go.WideShapes Go.ChangeAt Go.RowKit Go.Deep
theorem openFu {H : Type} {enc : TypeId × Value → H} {W : World} {fuel : Nat} {cs : List Value} {x : DataW H × List MemPlace} {t e : TypeId} {k : IntKind}
    (ht : Try.prog.underlying t = some (.slice e)) (he : Try.prog.underlying e = some (.int k)) (hc : Try.prog.cellsOf e = 1)
    (hf : DataW.trod enc Try.prog W 0 (fun _ => true) true fuel t cs = some x) : ∃ a len cap zs, cs = [.slice a len cap] ∧ IRow k W a len cap zs ∧ len ≤ Rows.uptoBulk x.1 := by
  rcases open_slice ht hf with ⟨rfl, _⟩ | ⟨a, l, c, m, n, D, Pl, rfl, _⟩
  · obtain ⟨zs, h1, h2⟩ := openI (a := none) (len := 0) (cap := 0) (d := x.1) (p := x.2) ht he hc hf
    exact ⟨none, 0, 0, zs, rfl, h1, h2.bulk⟩
  · obtain ⟨zs, h1, h2⟩ := openI (a := some a) (len := l) (cap := c) (d := x.1) (p := x.2) ht he hc hf
    exact ⟨some a, l, c, zs, rfl, h1, h2.bulk⟩
end Go.Proofs.Ytgimnoehagfhhaa
