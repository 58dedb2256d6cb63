/- same and front of law08: what each returns. -/
import Derived.Test.YthagdpiocmcbmaaMdlH
import Derived.Test.YthagdpiocmcbmaaMdlV
import Derived.BigQuiet
namespace Go.Proofs.Ythagdpiocmcbmaa
open Go.ChangeShapes Go.WideShapes Go.ChangeAt Go.RowKit
set_option linter.unusedVariables false
/-- A slice of shapes. -/
def SV (w : World) (v : Value) (L : List (Int × Int × Int)) : Prop :=
  ∃ a cap, v = .slice a L.length cap ∧ L.length ≤ cap ∧ cap ≤ maxLen ∧ (0 < L.length → ∃ g, a = some ⟨g, 0, none⟩ ∧ ∀ i, i < L.length →
    w.cell? ⟨g, i * 3, none⟩ = some (.int .i64 (L.getD i (0, 0, 0)).1) ∧ w.cell? ⟨g, i * 3 + 1, none⟩ = some (.int .i64 (L.getD i (0, 0, 0)).2.1) ∧ w.cell? ⟨g, i * 3 + 2, none⟩ = some (.int .i64 (L.getD i (0, 0, 0)).2.2))
theorem SV.below {w w' : World} {v : Value} {L : List (Int × Int × Int)} (h : SV w v L) (q : Below w.heap.size w w') : SV w' v L := by
  obtain ⟨a, cap, h1, h2, h3, h4⟩ := h
  refine ⟨a, cap, h1, h2, h3, fun h0 => ?_⟩
  obtain ⟨g, e, hc⟩ := h4 h0
  refine ⟨g, e, fun i hi => ?_⟩
  obtain ⟨c1, c2, c3⟩ := hc i hi
  exact ⟨(q.cell (World.block_lt_of_cell? w _ c1)).trans c1, (q.cell (World.block_lt_of_cell? w _ c2)).trans c2, (q.cell (World.block_lt_of_cell? w _ c3)).trans c3⟩
theorem sv_cu {w : World} {g cap : Nat} {cur : Array Value} {T : TypeId} {L M : List (Int × Int × Int)} (h : w.heap[g]? = some (.cells cur T (0, 0))) (hC : Cu cur cap L) (hm : cap ≤ maxLen) (n : Nat) (hn : n ≤ L.length) (hM : M = L.take n) : SV w (.slice (some ⟨g, 0, none⟩) n cap) M := by
  have hl : M.length = n := by rw [hM, List.length_take]; omega
  have hc := hC.2.1
  refine ⟨some ⟨g, 0, none⟩, cap, by rw [hl], by omega, hm, fun _ => ⟨g, rfl, fun i hi => ?_⟩⟩
  obtain ⟨a1, a2, a3⟩ := hC.at (i := i) (by omega)
  have e : M.getD i (0, 0, 0) = L.getD i (0, 0, 0) := by rw [hM]; simp [List.getD, show i < n by omega]
  rw [e]
  simp only [(cells_at h).1]
  exact ⟨a1, a2, a3⟩
theorem Shp.sv {w : World} {base : Nat} {v : Value} {L : List (Int × Int × Int)} (h : Shp w base v L) : SV w v L := by
  rcases h with ⟨rfl, rfl⟩ | ⟨g, cap, cur, rfl, h2, h3, h4, h5⟩
  · exact ⟨none, 0, rfl, Nat.le_refl _, by unfold maxLen; omega, fun h => by cases h⟩
  · exact sv_cu h3 h4 (by unfold maxLen; omega) L.length (Nat.le_refl _) (by simp)
theorem l3_step {xs ys : List (Int × Int × Int)} {k : Nat} {c d : Int × Int × Int} (kx : xs.getD k (0, 0, 0) = c) (ky : ys.getD k (0, 0, 0) = d) (hx : k < xs.length) (hy : k < ys.length) (he : xs.take k = ys.take k) : (c = d → xs.take (k + 1) = ys.take (k + 1)) ∧ (c ≠ d → decide (xs = ys) = false) := by
  rw [List.getD_eq_getElem?_getD, List.getElem?_eq_getElem hx, Option.getD_some] at kx
  rw [List.getD_eq_getElem?_getD, List.getElem?_eq_getElem hy, Option.getD_some] at ky
  constructor
  · intro h
    rw [List.take_add_one, List.take_add_one, he, List.getElem?_eq_getElem hx, List.getElem?_eq_getElem hy, kx, ky, h]
  · intro h
    refine decide_eq_false fun e => h ?_
    subst e
    rw [← kx, ← ky]
theorem l3_end {xs ys : List (Int × Int × Int)} {k n : Nat} (hx : xs.length = n) (hy : ys.length = n) (hk : n ≤ k) (he : xs.take k = ys.take k) : decide (xs = ys) = true := by
  rw [List.take_of_length_le (by omega), List.take_of_length_le (by omega)] at he
  exact decide_eq_true he
theorem retb {a b : Bool} (h : a = b) : Ending.returned (.bool a) = .returned (.bool b) := by rw [h]
/-! ### front -/
theorem St.grown {w0 w w' : World} {l : List (Nat × Array Value × TypeId)} {row : Option Nat} (h : St w0 w l) (g : w.grownBy w' row) (hr : ∀ k, row = some k → w0.heap.size ≤ k) (hl : ∀ x ∈ l, some x.1 ≠ row) : St w0 w' l :=
  ⟨h.1.grown g h.1.size hr, fun x hx => ⟨by rw [g.block _ (lt_of_heap (h.2 x hx).1) (hl x hx)]; exact (h.2 x hx).1, (h.2 x hx).2⟩⟩
/-- The cells that lie there. -/
def mc (w : World) (x : Addr) (n : Nat) : List Value := (List.range n).map fun q => (w.cell? (x.add q)).getD (.bool false)
theorem mc_len (w : World) (x : Addr) (n : Nat) : (mc w x n).length = n := by simp [mc]
theorem mc_at {w : World} {x : Addr} {n q : Nat} {v : Value} (h : q < n) (hc : w.cell? (x.add q) = some v) : (mc w x n)[q]? = some v := by simp [mc, h, hc]
theorem opl_len (o : Nat → Int) (wa : Option Addr) (lw cw : Nat) (ba : Option Addr) (lb cb : Nat) : (opl o wa lw cw ba lb cb).length = 22 := rfl
theorem opl_one (o : Nat → Int) (wa : Option Addr) (lw cw : Nat) (ba : Option Addr) (lb cb : Nat) : ∀ v ∈ opl o wa lw cw ba lb cb, v.oneCell' = true := by simp [opl, Value.oneCell']
theorem MRow.cell {w : World} {x : Addr} {on oc : Nat} {O : Nat → Nat → Int} (h : MRow w (some x) on oc O) {q : Nat} (hq : q < on * 22) : ∃ v, w.cell? (x.add q) = some v ∧ v.oneCell' = true := by
  obtain ⟨wa, lw, cw, ba, lb, cb, -, -, h3⟩ := h.2.2.2 x rfl (q / 22) (by omega)
  have hj : q % 22 < (opl (O (q / 22)) wa lw cw ba lb cb).length := by rw [opl_len]; omega
  have := h3 (q % 22) _ (List.getElem?_eq_getElem hj)
  rw [show q / 22 * 22 + q % 22 = q by omega] at this
  exact ⟨_, this, opl_one _ _ _ _ _ _ _ _ (List.getElem_mem hj)⟩
theorem mc_of {w : World} {x : Addr} {on oc k : Nat} {O : Nat → Nat → Int} (h : MRow w (some x) on oc O) (hk : k ≤ on) : (∀ j u, (mc w x (k * 22))[j]? = some u → w.cell? (x.add j) = some u) ∧ ∀ u ∈ mc w x (k * 22), u.oneCell' = true := by
  constructor
  · intro j u hj
    have hj' : j < k * 22 := by have := (List.getElem?_eq_some_iff.1 hj).1; rwa [mc_len] at this
    obtain ⟨v, hv, -⟩ := h.cell (q := j) (by omega)
    rw [mc_at hj' hv] at hj
    rw [hv, hj]
  · intro u hu
    obtain ⟨j, hj⟩ := List.getElem?_of_mem hu
    have hj' : j < k * 22 := by have := (List.getElem?_eq_some_iff.1 hj).1; rwa [mc_len] at this
    obtain ⟨v, hv, h1⟩ := h.cell (q := j) (by omega)
    rw [mc_at hj' hv] at hj
    cases hj
    exact h1
theorem mrow_copy {w w' : World} {x : Addr} {on oc k base : Nat} {v : Value} {O : Nat → Nat → Int} (h : MRow w (some x) on oc O) (hk : k ≤ on) (hown : w'.ownsRow base 50 22 v k (mc w x (k * 22))) (hv : v ≠ .slice none 0 0) :
    ∃ g cap cur, v = .slice (some ⟨g, 0, none⟩) k cap ∧ base ≤ g ∧ w'.heap[g]? = some (.cells cur 50 (0, 0)) ∧ MRow w' (some ⟨g, 0, none⟩) k cap O := by
  rcases hown.2 with ⟨h0, -⟩ | ⟨g, cap, cur, h1, h2, h3, h4, h5, h6, h7⟩
  · exact absurd h0 hv
  · refine ⟨g, cap, cur, h1, h2, h3, h4, h5, fun q => (by cases q), fun y hy i hi => ?_⟩
    cases hy
    obtain ⟨wa, lw, cw, ba, lb, cb, e1, e2, e3⟩ := h.2.2.2 x rfl i (by omega)
    refine ⟨wa, lw, cw, ba, lb, cb, e1, e2, fun j u hj => ?_⟩
    have hj' : j < 22 := (List.getElem?_eq_some_iff.1 hj).1
    exact hown.cells (by rw [h1]; rfl) _ _ (mc_at (by omega) (e3 j u hj))
theorem MRow.heap {w w' : World} {g k cap : Nat} {O : Nat → Nat → Int} (h : MRow w (some ⟨g, 0, none⟩) k cap O) (e : w'.heap[g]? = w.heap[g]?) : MRow w' (some ⟨g, 0, none⟩) k cap O :=
  ⟨h.1, h.2.1, h.2.2.1, fun x hx i hi => by
    obtain ⟨wa, lw, cw, ba, lb, cb, h1, h2, h3⟩ := h.2.2.2 x hx i hi
    exact ⟨wa, lw, cw, ba, lb, cb, h1, h2, fun j v hj => (World.cell?_of_block (by rw [add_block]; cases hx; exact e)).trans (h3 j v hj)⟩⟩
theorem ne_of_ty {w : World} {a b : Nat} {c d : Array Value} {t u : TypeId} (h : w.heap[a]? = some (.cells c t (0, 0))) (k : w.heap[b]? = some (.cells d u (0, 0))) (q : t ≠ u) : a ≠ b := fun e => by
  subst e
  rw [h] at k
  simp only [Option.some.injEq, Obj.cells.injEq] at k
  exact q k.2.1
end Go.Proofs.Ythagdpiocmcbmaa
