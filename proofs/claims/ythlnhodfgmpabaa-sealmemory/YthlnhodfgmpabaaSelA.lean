/- Certificates that came in; what is decoded, case by case. -/
import Derived.Test.YthlnhodfgmpabaaSelH
import Derived.Test.YthlnhodfgmpabaaOpo
namespace Go.Proofs.Ythlnhodfgmpabaa.Sl
open Wr
open Go.ChangeShapes Go.WideShapes Go.ChangeAt Go.RowKit
set_option linter.unusedVariables false
theorem i64_wf {a : Int} (h : (Lit.int .i64 a).wf = true) : -9223372036854775808 ≤ a ∧ a ≤ 9223372036854775807 := by
  simp [Lit.wf, IntKind.min, IntKind.max, IntKind.bits, IntKind.signed] at h; omega
theorem u8_wf {a : Int} (h : (Lit.int .u8 a).wf = true) : 0 ≤ a ∧ a < 256 := by
  simp [Lit.wf, IntKind.min, IntKind.max, IntKind.bits, IntKind.signed] at h
  omega
theorem irow_row {w : World} {a : Option Addr} {len cap : Nat} {zs : List Int} (h : IRow .u8 w a len cap zs) : Wr.Row w a len cap zs :=
  ⟨h.1, h.2.1, h.2.2.1, fun z hz => u8_wf (h.2.2.2.1 z hz), h.2.2.2.2.1, h.2.2.2.2.2⟩
def SpIn (cs : List Value) : Prop := ∃ (b0 : Int) (b1 : Int), cs = [.int .i64 b0, .int .i64 b1] ∧ (Lit.int .i64 b0).wf = true ∧ (Lit.int .i64 b1).wf = true
/-- Spans that came in. -/
theorem spans_of {w : World} {a : Option Addr} {n c : Nat} (h : ORow 2 SpIn w a n c) : ∃ R, ERow 2 scs w a n c R ∧ ∀ s ∈ R, S64 s := by
  obtain ⟨h1, h2, h3, h4⟩ := h
  cases a with
  | none =>
    have := h3 rfl
    obtain rfl : n = 0 := by omega
    exact ⟨[], ⟨rfl, by omega, h2, h3, fun x hx => by cases hx⟩, fun s hs => by cases hs⟩
  | some x =>
    have q : ∀ i, ∃ p : Int × Int, S64 p ∧ (i < n → ∀ j v, (scs p)[j]? = some v → w.cell? ((x.add (i * 2)).add j) = some v) := by
      intro i
      by_cases hi : i < n
      · obtain ⟨cs, -, ⟨b0, b1, rfl, g0, g1⟩, g⟩ := h4 x rfl i hi
        refine ⟨(b0, b1), ⟨i64_wf g0, i64_wf g1⟩, fun _ j v hv => ?_⟩
        have hj : j < 2 := (List.getElem?_eq_some_iff.1 hv).1
        rw [Addr.add_add, g j hj]
        exact hv
      · exact ⟨(0, 0), by unfold S64; simp only; omega, fun h => absurd h hi⟩
    obtain ⟨f, hf⟩ := Classical.skolem.1 q
    refine ⟨(List.range n).map f, ⟨by simp, h1, h2, h3, fun y hy i p hp j v hv => ?_⟩, fun s hs => ?_⟩
    · cases hy
      have hi : i < n := by have := (List.getElem?_eq_some_iff.1 hp).1; simpa using this
      rw [List.getElem?_map, List.getElem?_range hi, Option.map_some, Option.some.injEq] at hp
      subst hp
      exact (hf i).2 hi j v hv
    · obtain ⟨i, -, rfl⟩ := List.mem_map.1 hs
      exact (hf i).1
def ChIn (cs : List Value) : Prop := ∃ (b0 : Int) (b1 : Int) (b2 : Int) (b3 : Int) (b4 : Int) (b5 : Int), cs = [.int .i64 b0, .int .i64 b1, .int .i64 b2, .int .i64 b3, .int .i64 b4, .int .i64 b5] ∧ (Lit.int .i64 b0).wf = true ∧ (Lit.int .i64 b1).wf = true ∧ (Lit.int .i64 b2).wf = true ∧ (Lit.int .i64 b3).wf = true ∧ (Lit.int .i64 b4).wf = true ∧ (Lit.int .i64 b5).wf = true
/-- Plans that came in. -/
theorem chans_of {w : World} {a : Option Addr} {n c : Nat} (h : ORow 6 ChIn w a n c) : ∃ l, ERow 6 pcs w a n c l ∧ ∀ p ∈ l, P64 p := by
  obtain ⟨h1, h2, h3, h4⟩ := h
  cases a with
  | none =>
    have := h3 rfl
    obtain rfl : n = 0 := by omega
    exact ⟨[], ⟨rfl, by omega, h2, h3, fun x hx => by cases hx⟩, fun s hs => by cases hs⟩
  | some x =>
    have q : ∀ i, ∃ p : Pl, P64 p ∧ (i < n → ∀ j v, (pcs p)[j]? = some v → w.cell? ((x.add (i * 6)).add j) = some v) := by
      intro i
      by_cases hi : i < n
      · obtain ⟨cs, -, ⟨b0, b1, b2, b3, b4, b5, rfl, g0, g1, g2, g3, g4, g5⟩, g⟩ := h4 x rfl i hi
        refine ⟨(b0, b1, b2, b3, b4, b5), ⟨⟨i64_wf g2, i64_wf g3⟩, i64_wf g4, i64_wf g5⟩, fun _ j v hv => ?_⟩
        have hj : j < 6 := (List.getElem?_eq_some_iff.1 hv).1
        rw [Addr.add_add, g j hj]
        exact hv
      · exact ⟨(0, 0, 0, 0, 0, 0), by unfold P64 S64; simp only; omega, fun h => absurd h hi⟩
    obtain ⟨f, hf⟩ := Classical.skolem.1 q
    refine ⟨(List.range n).map f, ⟨by simp, h1, h2, h3, fun y hy i p hp j v hv => ?_⟩, fun s hs => ?_⟩
    · cases hy
      have hi : i < n := by have := (List.getElem?_eq_some_iff.1 hp).1; simpa using this
      rw [List.getElem?_map, List.getElem?_range hi, Option.map_some, Option.some.injEq] at hp
      subst hp
      exact (hf i).2 hi j v hv
    · obtain ⟨i, -, rfl⟩ := List.mem_map.1 hs
      exact (hf i).1
def PlIn (w : World) (cs : List Value) : Prop := ∃ (a : Option Addr) (l c : Nat), cs = [.slice a l c] ∧ ORow 6 ChIn w a l c ∧ l * 48 ≤ 140737488351232
theorem plans_of {w : World} {a : Option Addr} {n c : Nat} (h : ORow 1 (PlIn w) w a n c) : ∃ P, QRow w a n c P ∧ ∀ l ∈ P, ∀ p ∈ l, P64 p := by
  obtain ⟨h1, h2, h3, h4⟩ := h
  cases a with
  | none =>
    have := h3 rfl
    obtain rfl : n = 0 := by omega
    exact ⟨[], ⟨rfl, by omega, h2, h3, fun x hx => by cases hx⟩, fun s hs => by cases hs⟩
  | some x =>
    have q : ∀ i, ∃ l : List Pl, (∀ p ∈ l, P64 p) ∧ (i < n → ∃ ca cc, w.cell? (x.add i) = some (.slice ca l.length cc) ∧ ERow 6 pcs w ca l.length cc l ∧ l.length * 48 ≤ 140737488351232) := by
      intro i
      by_cases hi : i < n
      · obtain ⟨cs, -, ⟨ca, ln, cc, rfl, g1, g2⟩, g⟩ := h4 x rfl i hi
        obtain ⟨l, hl, hl6⟩ := chans_of g1
        have hln := hl.1
        subst hln
        refine ⟨l, hl6, fun _ => ⟨ca, cc, ?_, hl, g2⟩⟩
        have := g 0 (by omega)
        rw [Nat.mul_one, Nat.add_zero] at this
        rw [this]
        rfl
      · exact ⟨[], fun p hp => (by cases hp), fun h => absurd h hi⟩
    obtain ⟨f, hf⟩ := Classical.skolem.1 q
    refine ⟨(List.range n).map f, ⟨by simp, h1, h2, h3, fun y hy i l hl => ?_⟩, fun s hs => ?_⟩
    · cases hy
      have hi : i < n := by have := (List.getElem?_eq_some_iff.1 hl).1; simpa using this
      rw [List.getElem?_map, List.getElem?_range hi, Option.map_some, Option.some.injEq] at hl
      subst hl
      exact (hf i).2 hi
    · obtain ⟨i, -, rfl⟩ := List.mem_map.1 hs
      exact (hf i).1
/-! ### What is decoded -/
theorem eAll_le {c : CeD} (h : CeF c) : (eAll c).length ≤ 10000000 := by
  have a1 := put_small (n := c.1.length) (by have := h.1.1; omega)
  have a2 := flat_le (en := eSp) (c := 20) c.1 (fun s hs => eSp_le (h.1.2 s hs))
  have a3 := put_small (n := c.2.length) (by have := h.2.1; omega)
  have a4 := flat_le (en := eLi) (c := 70000) c.2 (fun l hl => eLi_le (fun p hp => ((h.2.2 l hl).2 p hp).2) (h.2.2 l hl).1)
  have a5 := h.1.1
  have a6 := h.2.1
  have a7 : head4.length = 4 := rfl
  unfold eAll eCe
  simp only [List.length_append]
  omega
theorem eAll_pos (m : CeD) : 0 < (eAll m).length := by unfold eAll; simp [head4]
theorem dec_bad {zs : List Int} {W w' : World} {r : Ending} (hd : Dec zs W w' r) {x t : Int} (h : pAll zs = .inl (x, t)) : r = .returned (.tuple #[.agg #[.slice none 0 0, .slice none 0 0], .agg #[.int .i64 x, .int .i64 (t / 4096), .int .i64 (t % 4096)]]) := by
  rcases hd with ⟨x', t', h1, h2⟩ | ⟨ra, rn, rc, R, pa, pn, pc, P, h1, -⟩
  · rw [h] at h1; cases h1; exact h2
  · rw [h] at h1; cases h1
theorem dec_cases {zs : List Int} {W w' : World} {r : Ending} (hd : Dec zs W w' r) (hb : Byt zs) :
    (∃ x t1 t2, x ≠ 0 ∧ r = .returned (.tuple #[.agg #[.slice none 0 0, .slice none 0 0], .agg #[.int .i64 x, .int .i64 t1, .int .i64 t2]])) ∨
      ∃ (ra : Option Addr) (rn rc : Nat) (R : List (Int × Int)) (pa : Option Addr) (pn pc : Nat) (P : List (List Pl)), zs = eAll (R, P) ∧ CeF (R, P) ∧ R.length = rn ∧ P.length = pn ∧ r = .returned (.tuple #[.agg #[.slice ra rn rc, .slice pa pn pc], .agg #[.int .i64 0, .int .i64 0, .int .i64 0]]) ∧ ERow 2 scs w' ra rn rc R ∧ QRow w' pa pn pc P ∧ w'.ownsRow W.heap.size 44 2 (.slice ra rn rc) rn (R.flatMap scs) ∧ QOwn w' W.heap.size (.slice pa pn pc) P := by
  rcases hd with ⟨x, t, h1, h2⟩ | ⟨ra, rn, rc, R, pa, pn, pc, P, h1, h2, h3, hr, oR, oP⟩
  · exact .inl ⟨x, _, _, pall_ne h1, h2⟩
  · obtain ⟨g1, g2⟩ := unq_all hb h1
    exact .inr ⟨ra, rn, rc, R, pa, pn, pc, P, g1, g2, h2, h3, hr, owns_erow scs_len oR h2, oP.q, oR, oP⟩
/-- A certificate has bytes, or a fault. -/
theorem ce_cases {c : CeD} (h : C64 c) : CeF c ∨ ∃ x1 x2 x3, fCe c = (x1, x2, x3) ∧ x1 ≠ 0 := by
  by_cases q : (fCe c).1 = 0
  · exact .inl (fCe_0 q h).2
  · exact .inr ⟨_, _, _, rfl, q⟩
end Go.Proofs.Ythlnhodfgmpabaa.Sl
