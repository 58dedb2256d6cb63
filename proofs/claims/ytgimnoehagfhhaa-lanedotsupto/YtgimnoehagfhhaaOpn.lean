/- Slices that came in, opened: of integers, of pairs of integers; how long they may be. -/
import Derived.Test.YtgimnoehagfhhaaRows
import Derived.WalkKit
import Derived.ProofKit
import Derived.OpenShut
import Derived.Below
import Derived.Deep.SlicePairs
namespace Go.Proofs.Ytgimnoehagfhhaa
open Go.ChangeShapes Go.WideShapes Go.ChangeAt Go.RowKit Go.Deep
/-- A slice of integers. -/
def IRow (k : IntKind) (w : World) (a : Option Addr) (len cap : Nat) (zs : List Int) : Prop :=
  zs.length = len ∧ len ≤ cap ∧ cap ≤ maxLen ∧ (∀ z ∈ zs, (Lit.int k z).wf = true) ∧ (a = none → cap = 0) ∧ ∀ x, a = some x → ∀ i, i < len → w.cell? (x.add i) = some (.int k (zs.getD i 0))
/-- A slice of pairs. -/
def PRow (k0 k1 : IntKind) (w : World) (a : Option Addr) (len cap : Nat) (os : List (Int × Int)) : Prop :=
  os.length = len ∧ len ≤ cap ∧ cap ≤ maxLen ∧ (∀ o ∈ os, (Lit.int k0 o.1).wf = true ∧ (Lit.int k1 o.2).wf = true) ∧ (a = none → cap = 0) ∧
    ∀ x, a = some x → ∀ i, i < len → w.cell? (x.add (i * 2)) = some (.int k0 (os.getD i (0, 0)).1) ∧ w.cell? (x.add (i * 2 + 1)) = some (.int k1 (os.getD i (0, 0)).2)
/-- How many a reading holds. -/
def Holds (H : Type) (d : DataW H) (len : Nat) : Prop := (d = .nil ∧ len = 0) ∨ ∃ el sp, d = .slice el sp ∧ el.length = len
theorem openI {H : Type} {enc : TypeId × Value → H} {W : World} {fuel : Nat} {a : Option Addr} {len cap : Nat} {d : DataW H} {p : List MemPlace} {t e : TypeId} {k : IntKind}
    (ht : Try.prog.underlying t = some (.slice e)) (he : Try.prog.underlying e = some (.int k)) (hc : Try.prog.cellsOf e = 1)
    (hf : DataW.trod enc Try.prog W 0 (fun _ => true) true fuel t (Value.slice a len cap).cells.toList = some (d, p)) : ∃ zs, IRow k W a len cap zs ∧ Holds H d len := by
  rcases open_ints ht he hc hf with ⟨hcs, hx⟩ | ⟨x, l, c, zs, hcs, _, hl, hm, hz, hx, hcell, hwz⟩
  · simp [Value.cells] at hcs
    obtain ⟨rfl, rfl, rfl⟩ := hcs
    simp only [Prod.mk.injEq] at hx
    exact ⟨[], ⟨rfl, Nat.le_refl _, by unfold maxLen; omega, (fun _ h => by cases h), fun _ => rfl, fun x h => by cases h⟩, .inl ⟨hx.1, rfl⟩⟩
  · simp [Value.cells] at hcs
    obtain ⟨rfl, rfl, rfl⟩ := hcs
    simp only [Prod.mk.injEq] at hx
    simp only [if_true] at hz
    refine ⟨zs.take len, ⟨by simp; omega, hl, hm, fun z h => hwz z (List.mem_of_mem_take h), fun h => (by cases h), fun y hy i hi => ?_⟩, .inr ⟨_, _, hx.1, by simp [lits]; omega⟩⟩
    obtain rfl := Option.some.inj hy
    rw [hcell i (by omega)]
    simp [List.getD, hi]
theorem openP {H : Type} {enc : TypeId × Value → H} {W : World} {fuel : Nat} {a : Option Addr} {len cap : Nat} {d : DataW H} {p : List MemPlace} {t e : TypeId} {f0 f1 : Field} {k0 k1 : IntKind}
    (ht : Try.prog.underlying t = some (.slice e)) (he : Try.prog.underlying e = some (.struct #[f0, f1])) (ce : Try.prog.cellsOf e = 2) (o0 : f0.offset = 0) (o1 : f1.offset = 1) (c0 : Try.prog.cellsOf f0.type = 1) (c1 : Try.prog.cellsOf f1.type = 1)
    (u0 : Try.prog.underlying f0.type = some (.int k0)) (u1 : Try.prog.underlying f1.type = some (.int k1))
    (hf : DataW.trod enc Try.prog W 0 (fun _ => true) true fuel t (Value.slice a len cap).cells.toList = some (d, p)) : ∃ os, PRow k0 k1 W a len cap os ∧ Holds H d len := by
  rcases open_slice_pairs ht he ce o0 o1 c0 c1 hf with ⟨hcs, hx⟩ | ⟨x, l, c, m, n, V0, V1, D0, D1, P0, P1, hcs, _, hl, hm, hmm, hx, hcell⟩
  · simp [Value.cells] at hcs
    obtain ⟨rfl, rfl, rfl⟩ := hcs
    simp only [Prod.mk.injEq] at hx
    exact ⟨[], ⟨rfl, Nat.le_refl _, by unfold maxLen; omega, (fun _ h => by cases h), fun _ => rfl, fun x h => by cases h⟩, .inl ⟨hx.1, rfl⟩⟩
  · simp [Value.cells] at hcs
    obtain ⟨rfl, rfl, rfl⟩ := hcs
    simp only [Prod.mk.injEq] at hx
    simp only [if_true] at hmm
    have each : ∀ i, i < len → V0 i = .int k0 (intOf (V0 i)) ∧ V1 i = .int k1 (intOf (V1 i)) ∧ (Lit.int k0 (intOf (V0 i))).wf = true ∧ (Lit.int k1 (intOf (V1 i))).wf = true := by
      intro i hi
      obtain ⟨_, _, g0, g1⟩ := hcell i (by omega)
      obtain ⟨b0, e0, _, w0⟩ := DataW.trod_int u0 g0
      obtain ⟨b1, e1, _, w1⟩ := DataW.trod_int u1 g1
      simp only [List.cons.injEq, and_true] at e0 e1
      rw [e0, e1]
      exact ⟨rfl, rfl, w0, w1⟩
    refine ⟨(List.range len).map fun i => (intOf (V0 i), intOf (V1 i)), ⟨by simp, hl, hm, fun o ho => ?_, fun h => (by cases h), fun y hy i hi => ?_⟩, .inr ⟨_, _, hx.1, by simp⟩⟩
    · obtain ⟨i, hi, rfl⟩ := List.mem_map.1 ho
      have := each i (by simpa using hi)
      exact ⟨this.2.2.1, this.2.2.2⟩
    · obtain rfl := Option.some.inj hy
      obtain ⟨g0, g1, _, _⟩ := hcell i (by omega)
      have e := each i hi
      rw [g0, g1]
      simp only [List.getD, List.getElem?_map, List.getElem?_range hi, Option.map_some, Option.getD_some]
      exact ⟨by rw [← e.1], by rw [← e.2.1]⟩
theorem bulk1 {H : Type} (d : DataW H) : 1 ≤ Rows.uptoBulk d := by
  cases d with
  | lit l => cases l <;> simp [Rows.uptoBulk]
  | _ => simp [Rows.uptoBulk]
theorem bulkN {H : Type} (l : List (DataW H)) : l.length ≤ Rows.uptoBulkAll l := by
  induction l with
  | nil => simp
  | cons x r ih => have := bulk1 x; simp only [Rows.uptoBulkAll, List.length_cons]; omega
theorem Holds.bulk {H : Type} {d : DataW H} {len : Nat} (h : Holds H d len) : len ≤ Rows.uptoBulk d := by
  rcases h with ⟨_, rfl⟩ | ⟨el, sp, rfl, rfl⟩
  · exact Nat.zero_le _
  · have := bulkN el; simp only [Rows.uptoBulk]; omega
end Go.Proofs.Ytgimnoehagfhhaa
