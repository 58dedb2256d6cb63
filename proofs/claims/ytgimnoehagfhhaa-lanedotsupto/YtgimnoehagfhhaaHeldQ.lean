/- A region that draws its order, whose operations only read, and whose callees make memory of their own alone: walked once, in the order of the text, in every world in which the listed blocks hold what they hold. -/
import Derived.Test.YtgimnoehagfhhaaHeld
import Derived.BigQuiet
namespace Go.Proofs.Ytgimnoehagfhhaa
open Go.ChangeShapes Go.WideShapes Go.ChangeAt Go.RowKit
/-- A world in which the listed blocks hold the listed cells. -/
def Wd (w0 : World) (l : List (Nat × Array Value × TypeId)) : Type := Subtype fun w : World => St w0 w l
def Wd.w {w0 : World} {l : List (Nat × Array Value × TypeId)} (n : Wd w0 l) : World := n.1
theorem Wd.h {w0 : World} {l : List (Nat × Array Value × TypeId)} (n : Wd w0 l) : St w0 n.w l := n.2
def Wd.mk {w0 : World} {l : List (Nat × Array Value × TypeId)} (w : World) (h : St w0 w l) : Wd w0 l := Subtype.mk w h
theorem region_held {P : Program} {w0 : World} {b : List (Nat × Array Value × TypeId)} {id : Nat} {Q : Exit → Act → World → Prop} {a : Act} {w : World} {l : List Oper} (hS : St w0 w b) (hm : P.follows .mixedOrders = true) (hB : Region.lexB .any l.toArray = true)
    (h : wpQuiet P l.toArray (fun w' => ∃ n : Wd w0 b, w' = n.w) (fun a' => ∀ w', (∃ n : Wd w0 b, w' = n.w) → Q .normal a' w') l a) : (Code.region id l.toArray true).wp P Q a w :=
  wp_region_quiet (C := fun w' => ∃ n : Wd w0 b, w' = n.w) hm hB ⟨Wd.mk _ hS.drew, rfl⟩ (by simpa using h)
theorem held_of {P : Program} {f : FuncId} {args : Array Value} {w0 : World} {b : List (Nat × Array Value × TypeId)} {n : Wd w0 b} {v : Value}
    (h : Calls P f args n.w fun e w' => e = .returned v ∧ Below n.w.heap.size n.w w') : Calls P f args n.w fun e w'' => e = .returned v ∧ ∃ m : Wd w0 b, w'' = m.w :=
  h.mono fun _ _ ⟨he, hb⟩ => ⟨he, Wd.mk _ (n.h.call hb), rfl⟩
theorem held_same {P : Program} {f : FuncId} {args : Array Value} {w0 : World} {b : List (Nat × Array Value × TypeId)} {n : Wd w0 b} {v : Value}
    (h : Calls P f args n.w fun e w' => e = .returned v ∧ w' = n.w) : Calls P f args n.w fun e w'' => e = .returned v ∧ ∃ m : Wd w0 b, w'' = m.w :=
  h.mono fun _ _ ⟨he, hb⟩ => ⟨he, n, hb⟩
/-- What the blocks hold, in each such world. -/
def RulesQ (w0 : World) (b : List (Nat × Array Value × TypeId)) : List (Nat × Array Value × TypeId) → Prop
  | [] => True
  | (B, c, _) :: l => (∀ (n : Wd w0 b) i, n.w.cell? ⟨B, i, none⟩ = c[i]?) ∧ (∀ (n : Wd w0 b), B < n.w.heap.size) ∧ RulesQ w0 b l
theorem rulesQ_of (w0 : World) (b : List (Nat × Array Value × TypeId)) : ∀ l : List (Nat × Array Value × TypeId), (∀ x ∈ l, x ∈ b) → RulesQ w0 b l
  | [], _ => trivial
  | (B, c, t) :: l, h => by
    have hm := h _ List.mem_cons_self
    refine ⟨fun n i => ?_, fun n => ?_, rulesQ_of w0 b l fun x hx => h x (List.mem_cons_of_mem _ hx)⟩
    · have h0 : n.w.heap[B]? = some (.cells c t) := (n.h.2 _ hm).1
      simp [World.cell?, h0]
    · exact lt_of_heap (n.h.2 _ hm).1
theorem rulesQ (w0 : World) (b : List (Nat × Array Value × TypeId)) : RulesQ w0 b b := rulesQ_of w0 b b fun _ h => h
/-- Blocks that a drawn region has made, behind a box. -/
theorem two_new (w : World) (o : Obj) (c d : Array Value) (t u : TypeId) :
    St w (((w.alloc o).alloc (.cells c t)).alloc (.cells d u)).drew [(w.heap.size + 1 + 1, d, u), (w.heap.size + 1, c, t)] := by
  have h := (((St.start w).skip o).new (c := c) (t := t)).new (c := d) (t := u)
  simp only [World.size_alloc] at h
  exact h.drew
theorem three_new (w : World) (o : Obj) (c d e : Array Value) (t u v : TypeId) :
    St w ((((w.alloc o).alloc (.cells c t)).alloc (.cells d u)).alloc (.cells e v)).drew [(w.heap.size + 1 + 1 + 1, e, v), (w.heap.size + 1 + 1, d, u), (w.heap.size + 1, c, t)] := by
  have h := ((((St.start w).skip o).new (c := c) (t := t)).new (c := d) (t := u)).new (c := e) (t := v)
  simp only [World.size_alloc] at h
  exact h.drew
end Go.Proofs.Ytgimnoehagfhhaa
