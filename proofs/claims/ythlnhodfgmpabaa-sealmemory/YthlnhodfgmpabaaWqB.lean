/- Rows of bytes made: joined, roomy, the copies; the comparison byte by byte. -/
import Derived.Test.YthlnhodfgmpabaaWqF
namespace Go.Proofs.Ythlnhodfgmpabaa.Wr
open Go.ChangeShapes Go.WideShapes Go.ChangeAt Go.RowKit
theorem dbel (w : World) (n : Nat) : Below w.heap.size w (w.drewN n) := ⟨rfl, rfl, rfl, Nat.le_refl _, fun _ _ => rfl⟩
theorem ret_bool {a b : Bool} (h : a = b) : Ending.returned (.bool a) = .returned (.bool b) := by rw [h]
theorem Own.bel {w w' w0 : World} {base : Nat} {v : Value} {zs : List Int} (h : Own w base v zs) (hb : Below base w0 w) (k : w.grownBy w' v.ownBlock) (hB : base ≤ w.heap.size) : Below base w0 w' := by
  refine hb.grown k hB fun b hb => ?_
  rcases h.shape with ⟨rfl, _⟩ | ⟨g, cap, rfl, hg, _⟩
  · cases hb
  · cases hb; exact hg
theorem same_step {xs ys : List Int} {k : Nat} {c d : Int} (hx : xs.drop k = c :: xs.drop (k + 1)) (hy : ys.drop k = d :: ys.drop (k + 1)) (he : xs.take k = ys.take k) : (c = d → xs.take (k + 1) = ys.take (k + 1)) ∧ (c ≠ d → decide (xs = ys) = false) := by
  have kx : xs[k]? = some c := by rw [← List.head?_drop, hx]; rfl
  have ky : ys[k]? = some d := by rw [← List.head?_drop, hy]; rfl
  constructor
  · intro h
    rw [List.take_add_one, List.take_add_one, he, kx, ky, h]
  · intro h
    refine decide_eq_false fun e => h ?_
    rw [e, ky] at kx
    exact (Option.some.inj kx).symm
theorem same_end {xs ys : List Int} {k n : Nat} (hx : xs.length = n) (hy : ys.length = n) (hk : n ≤ k) (he : xs.take k = ys.take k) : decide (xs = ys) = true := by
  rw [List.take_of_length_le (by omega), List.take_of_length_le (by omega)] at he
  exact decide_eq_true he
theorem Own.slice {w : World} {base n : Nat} {v : Value} {zs : List Int} (h : Own w base v zs) (hn : zs.length = n) (hv : v ≠ .slice none 0 0) : ∃ g cap, v = .slice (some ⟨g, 0, none⟩) n cap ∧ base ≤ g ∧ g < w.heap.size ∧ n ≤ cap ∧ cap ≤ maxLen := by
  subst hn
  rcases h.shape with ⟨h, _⟩ | ⟨g, cap, h, h1, h2, h3, h4, _⟩
  · exact absurd h hv
  · exact ⟨g, cap, h, h1, h2, h3, h4⟩
theorem own_empty (w : World) : Own (w.alloc (.cells #[] 5)) w.heap.size (.slice (some ⟨w.heap.size, 0, none⟩) 0 0) [] := own_lit w w.heap.size [] Byt.nil (by unfold maxLen; simp) (Nat.le_refl _)
def marks : List Int := [91, 92, 93, 94, 95, 96, 97, 98, 99, 90, 91, 92]
theorem marks_byt : Byt marks := by
  intro z hz
  simp only [marks, List.mem_cons, List.not_mem_nil, or_false] at hz
  omega
end Go.Proofs.Ythlnhodfgmpabaa.Wr
