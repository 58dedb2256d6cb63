/- What lies in the memory that a walk has made, carried through calls that make memory of their own. -/
import Derived.Test.YtgimnoehagfhhaaRows
import Derived.WalkKit
import Derived.ProofKit
import Derived.OpenShut
import Derived.Below
namespace Go.Proofs.Ytgimnoehagfhhaa
open Go.ChangeShapes Go.WideShapes Go.ChangeAt Go.RowKit
/-- Behind 'w0' nothing old has turned, and each listed block holds the listed cells. -/
def St (w0 w : World) (l : List (Nat × Array Value × TypeId)) : Prop :=
  Below w0.heap.size w0 w ∧ ∀ x ∈ l, w.heap[x.1]? = some (.cells x.2.1 x.2.2) ∧ w0.heap.size ≤ x.1
def Rules (w : World) : List (Nat × Array Value × TypeId) → Prop
  | [] => True
  | (B, c, _) :: l => (∀ i, w.cell? ⟨B, i, none⟩ = c[i]?) ∧ (∀ i, w.frozen? ⟨B, i, none⟩ = false) ∧ B < w.heap.size ∧ Rules w l
theorem St.start (w : World) : St w w [] := ⟨Below.refl _ _, fun _ h => by cases h⟩
theorem lt_of_heap {w : World} {B : Nat} {o : Obj} (h : w.heap[B]? = some o) : B < w.heap.size := by
  rcases Nat.lt_or_ge B w.heap.size with g | g
  · exact g
  · rw [Array.getElem?_eq_none g] at h; cases h
theorem St.below {w0 w : World} {l : List (Nat × Array Value × TypeId)} (h : St w0 w l) : Below w0.heap.size w0 w := h.1
theorem St.call {w0 w w1 : World} {l : List (Nat × Array Value × TypeId)} (h : St w0 w l) (hb : Below w.heap.size w w1) : St w0 w1 l :=
  ⟨h.1.trans (hb.mono h.1.size), fun x hx => ⟨by rw [hb.block _ (lt_of_heap (h.2 x hx).1)]; exact (h.2 x hx).1, (h.2 x hx).2⟩⟩
theorem St.skip {w0 w : World} {l : List (Nat × Array Value × TypeId)} (h : St w0 w l) (o : Obj) : St w0 (w.alloc o) l :=
  h.call ((Below.refl _ _).alloc (Nat.le_refl _) _)
theorem St.drew {w0 w : World} {l : List (Nat × Array Value × TypeId)} (h : St w0 w l) : St w0 w.drew l := h.call (Below.refl _ _).drew
theorem St.new {w0 w : World} {l : List (Nat × Array Value × TypeId)} {c : Array Value} {t : TypeId} (h : St w0 w l) : St w0 (w.alloc (.cells c t)) ((w.heap.size, c, t) :: l) := by
  have h2 := h.skip (.cells c t)
  refine ⟨h2.1, fun x hx => ?_⟩
  rcases List.mem_cons.1 hx with rfl | hx
  · exact ⟨by show (w.heap.push _)[w.heap.size]? = _; simp, h.1.size⟩
  · exact h2.2 x hx
theorem St.tail {w0 w : World} {x : Nat × Array Value × TypeId} {l : List (Nat × Array Value × TypeId)} (h : St w0 w (x :: l)) : St w0 w l :=
  ⟨h.1, fun y hy => h.2 y (List.mem_cons_of_mem _ hy)⟩
theorem heap_setCell_at {w : World} {B i : Nat} {c : Array Value} {t : TypeId} {v : Value} (h : w.heap[B]? = some (.cells c t)) :
    (w.setCell ⟨B, i, none⟩ v).heap[B]? = some (.cells (c.setIfInBounds i v) t) := by
  have hB := lt_of_heap h
  have e : w.heap[B] = .cells c t := by rw [Array.getElem?_eq_getElem hB] at h; exact Option.some.inj h
  simp [World.setCell, Array.getElem?_modify, h]
theorem St.set {w0 w : World} {B i : Nat} {c : Array Value} {t : TypeId} {l : List (Nat × Array Value × TypeId)} {v : Value} (h : St w0 w ((B, c, t) :: l)) (hl : ∀ x ∈ l, x.1 ≠ B) :
    St w0 (w.setCell ⟨B, i, none⟩ v) ((B, c.setIfInBounds i v, t) :: l) := by
  have hB := (h.2 _ List.mem_cons_self)
  refine ⟨h.1.setCell (p := ⟨B, i, none⟩) hB.2 v, fun x hx => ?_⟩
  rcases List.mem_cons.1 hx with rfl | hx
  · exact ⟨heap_setCell_at hB.1, hB.2⟩
  · have := h.2 x (List.mem_cons_of_mem _ hx)
    exact ⟨by rw [Below.heap_setCell _ _ _ _ (hl x hx)]; exact this.1, this.2⟩
theorem rules_of {w : World} : ∀ (l : List (Nat × Array Value × TypeId)), (∀ x ∈ l, w.heap[x.1]? = some (.cells x.2.1 x.2.2)) → Rules w l
  | [], _ => trivial
  | (B, c, t) :: l, h => by
    have h0 := h _ List.mem_cons_self
    refine ⟨fun i => ?_, fun i => ?_, lt_of_heap h0, rules_of l fun x hx => h x (List.mem_cons_of_mem _ hx)⟩
    · have h0 : w.heap[B]? = some (.cells c t) := h0
      simp [World.cell?, h0]
    · have h0 : w.heap[B]? = some (.cells c t) := h0
      simp [World.frozen?, h0]
theorem St.rules {w0 w : World} {l : List (Nat × Array Value × TypeId)} (h : St w0 w l) : Rules w l := rules_of l fun x hx => (h.2 x hx).1
theorem St.size {w0 w : World} {l : List (Nat × Array Value × TypeId)} (h : St w0 w l) : w0.heap.size ≤ w.heap.size := h.1.size
theorem St.out2 {w0 w : World} {B i j : Nat} {c : Array Value} {t : TypeId} {l : List (Nat × Array Value × TypeId)} {u v : Value} (h : St w0 w ((B, c, t) :: l)) :
    Below w0.heap.size w0 ((w.setCell ⟨B, i, none⟩ u).setCell ⟨B, j, none⟩ v) :=
  (h.1.setCell (p := ⟨B, i, none⟩) (h.2 _ List.mem_cons_self).2 u).setCell (p := ⟨B, j, none⟩) (h.2 _ List.mem_cons_self).2 v
theorem St.set2 {w0 w : World} {B : Nat} {a b u v : Value} {t : TypeId} {l : List (Nat × Array Value × TypeId)} (h : St w0 w ((B, #[a, b], t) :: l)) (hl : ∀ x ∈ l, x.1 ≠ B) :
    St w0 ((w.setCell ⟨B, 0, none⟩ u).setCell ⟨B, 1, none⟩ v) ((B, #[u, v], t) :: l) := (h.set hl (i := 0) (v := u)).set hl (i := 1) (v := v)
theorem St.sub {w0 w : World} {l l' : List (Nat × Array Value × TypeId)} (h : St w0 w l) (hs : ∀ x ∈ l', x ∈ l) : St w0 w l' := ⟨h.1, fun x hx => h.2 x (hs x hx)⟩
theorem St.up1 {w0 w : World} {x y : Nat × Array Value × TypeId} {l : List (Nat × Array Value × TypeId)} (h : St w0 w (x :: y :: l)) : St w0 w (y :: x :: l) :=
  h.sub fun z hz => by simp only [List.mem_cons] at *; rcases hz with h | h | h <;> simp [h]
theorem St.up2 {w0 w : World} {x y z : Nat × Array Value × TypeId} {l : List (Nat × Array Value × TypeId)} (h : St w0 w (x :: y :: z :: l)) : St w0 w (z :: x :: y :: l) :=
  h.sub fun z hz => by simp only [List.mem_cons] at *; rcases hz with h | h | h | h <;> simp [h]
theorem St.up3 {w0 w : World} {x y z u : Nat × Array Value × TypeId} {l : List (Nat × Array Value × TypeId)} (h : St w0 w (x :: y :: z :: u :: l)) : St w0 w (u :: x :: y :: z :: l) :=
  h.sub fun z hz => by simp only [List.mem_cons] at *; rcases hz with h | h | h | h | h <;> simp [h]
end Go.Proofs.Ytgimnoehagfhhaa
