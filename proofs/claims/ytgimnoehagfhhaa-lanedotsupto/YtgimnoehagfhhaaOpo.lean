/- Slices of structs that came in, opened. -/
import Derived.Test.YtgimnoehagfhhaaOpn
namespace Go.Proofs.Ytgimnoehagfhhaa
open Go.ChangeShapes Go.WideShapes Go.ChangeAt Go.RowKit Go.Deep
/-- A slice of structs: each element's cells. -/
def ORow (nc : Nat) (R : List Value → Prop) (w : World) (a : Option Addr) (len cap : Nat) : Prop :=
  len ≤ cap ∧ cap ≤ maxLen ∧ (a = none → cap = 0) ∧ ∀ x, a = some x → ∀ i, i < len → ∃ cs, cs.length = nc ∧ R cs ∧ ∀ j, j < nc → w.cell? (x.add (i * nc + j)) = cs[j]?
theorem openO {H : Type} {enc : TypeId × Value → H} {W : World} {fuel : Nat} {a : Option Addr} {len cap : Nat} {d : DataW H} {p : List MemPlace} {t e : TypeId} {nc : Nat} (R : List Value → Prop)
    (ht : Try.prog.underlying t = some (.slice e)) (ce : Try.prog.cellsOf e = nc) (hR : ∀ n cs x, DataW.trod enc Try.prog W 0 (fun _ => true) true n e cs = some x → R cs)
    (hf : DataW.trod enc Try.prog W 0 (fun _ => true) true fuel t (Value.slice a len cap).cells.toList = some (d, p)) : ORow nc R W a len cap ∧ Holds H d len := by
  rcases open_slice ht hf with ⟨hcs, hx⟩ | ⟨x, l, c, m, n, D, Pl, hcs, hb, hl, hm, hmm, hx, hcell⟩
  · simp [Value.cells] at hcs
    obtain ⟨rfl, rfl, rfl⟩ := hcs
    simp only [Prod.mk.injEq] at hx
    exact ⟨⟨Nat.le_refl _, by unfold maxLen; omega, fun _ => rfl, fun x h => by cases h⟩, .inl ⟨hx.1, rfl⟩⟩
  · simp [Value.cells] at hcs
    obtain ⟨rfl, rfl, rfl⟩ := hcs
    simp only [Prod.mk.injEq] at hx
    simp only [if_true] at hmm
    refine ⟨⟨hl, hm, fun h => (by cases h), fun y hy i hi => ?_⟩, .inr ⟨_, _, hx.1, by simp⟩⟩
    obtain rfl := Option.some.inj hy
    obtain ⟨cs, h1, h2⟩ := hcell i (by omega)
    rw [ce] at h1
    obtain ⟨_, hlen, hc⟩ := World.cells?_some h1
    refine ⟨cs, hlen, hR _ _ _ h2, fun j hj => ?_⟩
    have := hc j (by omega)
    rw [Addr.add_add] at this
    rw [this, List.getElem?_eq_getElem (by omega)]
end Go.Proofs.Ytgimnoehagfhhaa
