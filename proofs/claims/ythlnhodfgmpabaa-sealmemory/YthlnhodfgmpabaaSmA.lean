/- For SealMemory: lists of plans that are written and grown, each in a block of its own, and what of the memory stays. -/
import Derived.Test.YthlnhodfgmpabaaSelA
import Derived.Deep.MidRow
import Derived.Deep.AppendLies
namespace Go.Proofs.Ythlnhodfgmpabaa.Sl
open Wr
open Go.ChangeShapes Go.WideShapes Go.ChangeAt Go.RowKit
set_option linter.unusedVariables false
/-- Blocks of the elder world turn only from lo to hi. -/
def Outs (lo hi : Nat) (w w' : World) : Prop := w'.os = w.os ∧ w'.tape = w.tape ∧ w'.output = w.output ∧ w.heap.size ≤ w'.heap.size ∧ ∀ i, i < w.heap.size → i < lo ∨ hi ≤ i → w'.heap[i]? = w.heap[i]?
theorem Outs.refl (lo hi : Nat) (w : World) : Outs lo hi w w := ⟨rfl, rfl, rfl, Nat.le_refl _, fun _ _ _ => rfl⟩
theorem Outs.step {lo hi : Nat} {w w1 w2 : World} {row : Option Nat} (h : Outs lo hi w w1) (q : w1.grownBy w2 row) (hr : ∀ b, row = some b → (lo ≤ b ∧ b < hi) ∨ w.heap.size ≤ b) : Outs lo hi w w2 := by
  obtain ⟨h1, h2, h3, h4, h5⟩ := h
  refine ⟨q.os.trans h1, q.tape.trans h2, q.output.trans h3, Nat.le_trans h4 q.size, fun i hi hb => ?_⟩
  rw [← h5 i hi hb]
  exact q.block i (by omega) (fun e => by have := hr i e.symm; omega)
theorem grown_of {w w' : World} (q : Below w.heap.size w w') : w.grownBy w' none := ⟨q.os, q.tape, q.output, q.size, fun i hi _ => q.block i hi⟩
theorem Outs.bel {lo hi : Nat} {w w1 w2 : World} (h : Outs lo hi w w1) (q : Below w1.heap.size w1 w2) : Outs lo hi w w2 := h.step (grown_of q) (fun b e => by cases e)
theorem Outs.below {lo hi : Nat} {w0 w w' : World} (h : Outs lo hi w w') (q : Below lo w0 w) (hl : lo ≤ w.heap.size) : Below lo w0 w' :=
  q.trans ⟨h.1, h.2.1, h.2.2.1, h.2.2.2.1, fun k hk => h.2.2.2.2 k (by omega) (.inl hk)⟩
theorem Outs.own {lo hi : Nat} {w w' : World} {e : TypeId} {size n : Nat} {v : Value} {xs : List Value} (h : Outs lo hi w w') (q : w.ownsRow hi e size v n xs) : w'.ownsRow hi e size v n xs := by
  refine ⟨q.1, ?_⟩
  rcases q.2 with q | ⟨g, cap, cur, h1, h2, h3, h4⟩
  · exact .inl q
  · exact .inr ⟨g, cap, cur, h1, h2, (h.2.2.2.2 g (lt_of_heap h3) (.inr h2)).trans h3, h4⟩
theorem Outs.qown {lo hi : Nat} {w w' : World} {v : Value} {P : List (List Pl)} (h : Outs lo hi w w') (q : QOwn w hi v P) : QOwn w' hi v P := by
  obtain ⟨f, h1, h2, h3⟩ := q
  exact ⟨f, h.own h1, fun i l hl => ⟨h.own (h2 i l hl).1, (h2 i l hl).2⟩, h3⟩
theorem Outs.at {lo hi k : Nat} {w w' : World} {o : Obj} (h : Outs lo hi w w') (q : w.heap[k]? = some o) (hk : hi ≤ k) : w'.heap[k]? = some o := (h.2.2.2.2 k (lt_of_heap q) (.inr hk)).trans q
/-! ### Cells that are written -/
def setL (xs : List Value) (o : Nat) : List Value → List Value
  | [] => xs
  | v :: r => setL (xs.set o v) (o + 1) r
theorem setL_len : ∀ (vs xs : List Value) (o : Nat), (setL xs o vs).length = xs.length
  | [], _, _ => rfl
  | v :: r, xs, o => by rw [setL, setL_len r]; simp
theorem setL_app (a : List Value) : ∀ (vs b : List Value) (o : Nat), setL (a ++ b) (a.length + o) vs = a ++ setL b o vs
  | [], _, _ => rfl
  | v :: r, b, o => by
    rw [setL, setL, List.set_append_right _ _ (by omega), Nat.add_sub_cancel_left, Nat.add_assoc, setL_app a r]
theorem setL_front (b : List Value) : ∀ (a vs : List Value), a.length = vs.length → setL (a ++ b) 0 vs = vs ++ b
  | [], [], _ => rfl
  | [], v :: r, h => by cases h
  | x :: a, [], h => by cases h
  | x :: a, v :: r, h => by
    have := setL_app [v] r (a ++ b) 0
    rw [show setL (x :: a ++ b) 0 (v :: r) = setL ([v] ++ (a ++ b)) ([v].length + 0) r from rfl, this, setL_front b a r (by simpa using h)]
    rfl
theorem flat_setL {α : Type} {nc : Nat} {E : α → List Value} (hE : ∀ p, (E p).length = nc) (p' : α) : ∀ (ys : List α) (i : Nat), i < ys.length → setL (ys.flatMap E) (i * nc) (E p') = (ys.set i p').flatMap E
  | [], i, h => by simp at h
  | x :: r, 0, h => by
    rw [List.flatMap_cons, List.set_cons_zero, List.flatMap_cons, Nat.zero_mul, setL_front _ _ _ (by rw [hE, hE])]
  | x :: r, i + 1, h => by
    rw [List.flatMap_cons, List.set_cons_succ, List.flatMap_cons, show (i + 1) * nc = (E x).length + i * nc by rw [hE, Nat.add_mul]; omega, setL_app, flat_setL hE p' r i (by simpa using h)]
theorem owns_setCells {base : Nat} {e : TypeId} {size n cap g : Nat} : ∀ (vs : List Value) (o : Nat) (w : World) (xs : List Value), w.ownsRow base e size (.slice (some ⟨g, 0, none⟩) n cap) n xs →
    (w.setCells g o vs).ownsRow base e size (.slice (some ⟨g, 0, none⟩) n cap) n (setL xs o vs) ∧ w.grownBy (w.setCells g o vs) (some g)
  | [], o, w, xs, h => ⟨h, rfl, rfl, rfl, Nat.le_refl _, fun _ _ _ => rfl⟩
  | v :: r, o, w, xs, h => by
    obtain ⟨q1, q2⟩ := h.stored o v
    obtain ⟨p1, p2⟩ := owns_setCells r (o + 1) _ _ q1
    refine ⟨p1, p2.os.trans q2.os, p2.tape.trans q2.tape, p2.output.trans q2.output, Nat.le_trans q2.size p2.size, fun k hk hne => ?_⟩
    exact (p2.block k (Nat.lt_of_lt_of_le hk q2.size) hne).trans (q2.block k hk hne)
theorem owns_there {w : World} {base : Nat} {e : TypeId} {size n cap g : Nat} {xs : List Value} (h : w.ownsRow base e size (.slice (some ⟨g, 0, none⟩) n cap) n xs) {k : Nat} (hk : k < n) : w.there g (k * size) size := by
  intro j hj
  obtain ⟨cur, hg⟩ := owns_ty h g rfl
  have hlen := h.1
  have hlt : k * size + j < xs.length := by
    have : (k + 1) * size ≤ n * size := Nat.mul_le_mul_right size hk
    rw [Nat.add_mul, Nat.one_mul] at this
    omega
  have := h.cells rfl (k * size + j) xs[k * size + j] (List.getElem?_eq_getElem hlt)
  rw [Addr.add_lit, Nat.zero_add] at this
  exact ⟨by rw [this]; rfl, (cells_at hg).2.1 _⟩
theorem owns_some {w : World} {base : Nat} {e : TypeId} {size n cap : Nat} {a : Option Addr} {xs : List Value} (h : w.ownsRow base e size (.slice a n cap) n xs) (hn : 0 < n) : ∃ g, a = some ⟨g, 0, none⟩ ∧ base ≤ g ∧ g < w.heap.size ∧ n ≤ cap ∧ cap ≤ maxLen := by
  rcases h.2 with ⟨-, h0⟩ | ⟨g, cap', cur, e', hb, hg, hnc, hcm, -, -⟩
  · omega
  · cases e'
    exact ⟨g, rfl, hb, lt_of_heap hg, hnc, hcm⟩
/-! ### Lists that may be written -/
def upd {α : Type} (F : Nat → α) (j : Nat) (l : α) : Nat → α := fun i => if i = j then l else F i
theorem upd_same {α : Type} (F : Nat → α) (j : Nat) (l : α) : upd F j l j = l := if_pos rfl
theorem upd_other {α : Type} (F : Nat → α) {i j : Nat} (l : α) (h : i ≠ j) : upd F j l i = F i := if_neg h
theorem upd_id {α : Type} (F : Nat → α) (j : Nat) : upd F j (F j) = F := by funext i; unfold upd; split <;> simp_all
def Rng (lo hi s : Nat) (b : Nat) : Prop := (lo ≤ b ∧ b < hi) ∨ s ≤ b
/-- The lists, each owned, in blocks of their own. -/
def FI (lo hi s : Nat) (w : World) (n : Nat) (V : Nat → Value) (F : Nat → List Pl) : Prop :=
  (∀ i, i < n → w.ownsRow lo 47 6 (V i) (F i).length ((F i).flatMap pcs)) ∧ (∀ i b, i < n → (V i).ownBlock = some b → Rng lo hi s b) ∧ ∀ i j b, i < n → j < n → (V i).ownBlock = some b → (V j).ownBlock = some b → i = j
/-- The list of the lists. -/
def FO (lo hi : Nat) (w : World) (a : Option Addr) (n c : Nat) (V : Nat → Value) : Prop := w.ownsRow lo 45 1 (.slice a n c) n ((List.range n).map V) ∧ ∀ b, (Value.slice a n c).ownBlock = some b → b < hi
def RO (lo hi : Nat) (w : World) (a : Option Addr) (n c : Nat) : Prop := ∃ xs, w.ownsRow lo 44 2 (.slice a n c) n xs ∧ ∀ b, (Value.slice a n c).ownBlock = some b → b < hi
theorem FI.below {lo hi s n : Nat} {w w' : World} {V : Nat → Value} {F : Nat → List Pl} (h : FI lo hi s w n V F) (q : Below w.heap.size w w') : FI lo hi s w' n V F := ⟨fun i hi => owns_below (h.1 i hi) q, h.2⟩
theorem FO.below {lo hi n c : Nat} {w w' : World} {a : Option Addr} {V : Nat → Value} (h : FO lo hi w a n c V) (q : Below w.heap.size w w') : FO lo hi w' a n c V := ⟨owns_below h.1 q, h.2⟩
theorem RO.below {lo hi n c : Nat} {w w' : World} {a : Option Addr} (h : RO lo hi w a n c) (q : Below w.heap.size w w') : RO lo hi w' a n c := by
  obtain ⟨xs, h1, h2⟩ := h
  exact ⟨xs, owns_below h1 q, h2⟩
theorem FI.grown {lo hi s n : Nat} {w w' : World} {V : Nat → Value} {F : Nat → List Pl} {row : Option Nat} {T : TypeId} (h : FI lo hi s w n V F) (q : w.grownBy w' row) (hr : ∀ b, row = some b → ∃ c, w.heap[b]? = some (.cells c T (0, 0))) (hT : T ≠ 47) : FI lo hi s w' n V F := ⟨fun i hi => owns_grown (h.1 i hi) q hr hT, h.2⟩
theorem FO.grown {lo hi n c : Nat} {w w' : World} {a : Option Addr} {V : Nat → Value} {row : Option Nat} {T : TypeId} (h : FO lo hi w a n c V) (q : w.grownBy w' row) (hr : ∀ b, row = some b → ∃ c, w.heap[b]? = some (.cells c T (0, 0))) (hT : T ≠ 45) : FO lo hi w' a n c V := ⟨owns_grown h.1 q hr hT, h.2⟩
theorem FI.put {lo hi s n i : Nat} {w w' : World} {V : Nat → Value} {F : Nat → List Pl} {v : Value} {X : List Pl} (h : FI lo hi s w n V F) (him : i < n) (q : w.grownBy w' (V i).ownBlock) (hO : w'.ownsRow lo 47 6 v X.length (X.flatMap pcs)) (hb : v.ownBlock = (V i).ownBlock ∨ ∀ b, v.ownBlock = some b → w.heap.size ≤ b) (hs : s ≤ w.heap.size) : FI lo hi s w' n (upd V i v) (upd F i X) := by
  obtain ⟨h1, h2, h3⟩ := h
  have old : ∀ j b, j < n → (V j).ownBlock = some b → b < w.heap.size := fun j b hj e => ((h1 j hj).lt b e).2
  have key : ∀ j b, j < n → j ≠ i → (V j).ownBlock = some b → v.ownBlock = some b → False := fun j b hj hne e1 e2 => by
    rcases hb with q' | q'
    · exact hne (h3 j i b hj him e1 (by rw [← q']; exact e2))
    · have := q' b e2
      have := old j b hj e1
      omega
  refine ⟨fun j hj => ?_, fun j b hj e => ?_, fun j k b hj hk e1 e2 => ?_⟩
  · by_cases e : j = i
    · subst e; rw [upd_same, upd_same]; exact hO
    · rw [upd_other _ _ e, upd_other _ _ e]
      refine World.ownsRow.kept (h1 j hj) q ?_
      cases eb : (V j).ownBlock with
      | none => exact .inl rfl
      | some b => exact .inr (fun e' => e (h3 j i b hj him eb e'.symm))
  · by_cases ej : j = i
    · subst ej
      rw [upd_same] at e
      rcases hb with q' | q'
      · exact h2 j b hj (by rw [← q']; exact e)
      · have := q' b e
        exact .inr (by omega)
    · rw [upd_other _ _ ej] at e
      exact h2 j b hj e
  · by_cases ej : j = i
    · by_cases ek : k = i
      · omega
      · subst ej
        rw [upd_same] at e1
        rw [upd_other _ _ ek] at e2
        exact (key k b hk ek e2 e1).elim
    · by_cases ek : k = i
      · subst ek
        rw [upd_same] at e2
        rw [upd_other _ _ ej] at e1
        exact (key j b hj ej e1 e2).elim
      · rw [upd_other _ _ ej] at e1
        rw [upd_other _ _ ek] at e2
        exact h3 j k b hj hk e1 e2
theorem FI.out {lo hi n i : Nat} {w0 w w' : World} {V : Nat → Value} {F : Nat → List Pl} (h : FI lo hi w0.heap.size w n V F) (him : i < n) (q : w.grownBy w' (V i).ownBlock) (o : Outs lo hi w0 w) : Outs lo hi w0 w' := o.step q fun b e => h.2.1 i b him e
theorem FI.ty {lo hi s n i : Nat} {w : World} {V : Nat → Value} {F : Nat → List Pl} (h : FI lo hi s w n V F) (him : i < n) : ∀ b, (V i).ownBlock = some b → ∃ c, w.heap[b]? = some (.cells c 47 (0, 0)) := owns_ty (h.1 i him)
/-- Where a list lies, and its slot in the list of the lists. -/
theorem FO.at {lo hi n c i : Nat} {w : World} {a : Option Addr} {V : Nat → Value} (h : FO lo hi w a n c V) (hi' : i < n) : ∃ g, a = some ⟨g, 0, none⟩ ∧ w.cell? ⟨g, i, none⟩ = some (V i) ∧ (∀ j, w.frozen? ⟨g, j, none⟩ = false) ∧ n ≤ c ∧ c ≤ maxLen ∧ g < hi ∧ lo ≤ g ∧ ∃ cs, w.heap[g]? = some (.cells cs 45 (0, 0)) := by
  obtain ⟨g, rfl, h1, h2, h3, h4⟩ := owns_some h.1 (by omega)
  have hc := h.1.cells rfl i (V i) (by rw [List.getElem?_map, List.getElem?_range hi', Option.map_some])
  rw [Addr.add_lit, Nat.zero_add] at hc
  obtain ⟨cs, hg⟩ := owns_ty h.1 g rfl
  exact ⟨g, rfl, hc, (cells_at hg).2.1, h3, h4, h.2 g rfl, h1, cs, hg⟩
theorem map_upd (V : Nat → Value) (i n : Nat) (v : Value) (hi : i < n) : (List.range n).map (upd V i v) = ((List.range n).map V).set i v := by
  refine List.ext_getElem? fun j => ?_
  by_cases hj : j < n
  · by_cases e : j = i
    · subst e
      rw [List.getElem?_map, List.getElem?_range hj, Option.map_some, upd_same, List.getElem?_set_self (by simpa using hj)]
    · rw [List.getElem?_map, List.getElem?_range hj, Option.map_some, upd_other _ _ e, List.getElem?_set_ne (fun q => e q.symm), List.getElem?_map, List.getElem?_range hj, Option.map_some]
  · rw [List.getElem?_eq_none (by simpa using hj), List.getElem?_eq_none (by simpa using hj)]
/-- A slot of the list of the lists is written. -/
theorem FO.set {lo hi n c i g : Nat} {w w0 : World} {V : Nat → Value} {F : Nat → List Pl} {v : Value} (h : FO lo hi w (some ⟨g, 0, none⟩) n c V) (hi' : i < n) (f : FI lo hi w0.heap.size w n (upd V i v) F) (o : Outs lo hi w0 w) :
    FO lo hi (w.setCell ⟨g, i, none⟩ v) (some ⟨g, 0, none⟩) n c (upd V i v) ∧ FI lo hi w0.heap.size (w.setCell ⟨g, i, none⟩ v) n (upd V i v) F ∧ Outs lo hi w0 (w.setCell ⟨g, i, none⟩ v) := by
  obtain ⟨q1, q2⟩ := h.1.stored i v
  refine ⟨⟨by rw [map_upd V i n v hi']; exact q1, h.2⟩, f.grown q2 (fun b e => by cases e; exact owns_ty h.1 g rfl) (by decide), o.step q2 fun b e => ?_⟩
  cases e
  exact .inl ⟨(h.1.lt g rfl).1, h.2 g rfl⟩
/-- A plan of a list is written. -/
theorem FI.plan {lo hi n i k : Nat} {w w0 : World} {a : Option Addr} {c : Nat} {V : Nat → Value} {F : Nat → List Pl} (h : FI lo hi w0.heap.size w n V F) (fo : FO lo hi w a n c V) (him : i < n) (hk : k < (F i).length) (p : Pl) (o : Outs lo hi w0 w) :
    ∃ g cap, V i = .slice (some ⟨g, 0, none⟩) (F i).length cap ∧ (F i).length ≤ cap ∧ cap ≤ maxLen ∧ w.there g (k * 6) 6 ∧ FI lo hi w0.heap.size (w.setCells g (k * 6) (pcs p)) n V (upd F i ((F i).set k p)) ∧ FO lo hi (w.setCells g (k * 6) (pcs p)) a n c V ∧ Outs lo hi w0 (w.setCells g (k * 6) (pcs p)) := by
  have hO := h.1 i him
  obtain ⟨a', cap, e⟩ := owns_slice hO
  rw [e] at hO
  obtain ⟨g, rfl, h1, h2, h3, h4⟩ := owns_some hO (by omega)
  obtain ⟨q1, q2⟩ := owns_setCells (pcs p) (k * 6) w _ hO
  have q3 : w.grownBy (w.setCells g (k * 6) (pcs p)) (V i).ownBlock := by rw [e]; exact q2
  have hput := h.put (v := V i) (X := (F i).set k p) him q3 (by rw [List.length_set, ← flat_setL pcs_len p (F i) k hk, e]; exact q1) (.inl rfl) o.2.2.2.1
  rw [upd_id] at hput
  exact ⟨g, cap, e, h3, h4, owns_there hO hk, hput, fo.grown q3 (h.ty him) (by decide), h.out him q3 o⟩
/-- A span is written. -/
theorem RO.put {lo hi n c k : Nat} {w w0 : World} {a : Option Addr} (h : RO lo hi w a n c) (hk : k < n) (o : Outs lo hi w0 w) (vs : List Value) :
    ∃ g, a = some ⟨g, 0, none⟩ ∧ n ≤ c ∧ c ≤ maxLen ∧ w.there g (k * 2) 2 ∧ RO lo hi (w.setCells g (k * 2) vs) a n c ∧ (∀ {s m : Nat} {V : Nat → Value} {F : Nat → List Pl}, FI lo hi s w m V F → FI lo hi s (w.setCells g (k * 2) vs) m V F) ∧ (∀ {b : Option Addr} {m d : Nat} {V : Nat → Value}, FO lo hi w b m d V → FO lo hi (w.setCells g (k * 2) vs) b m d V) ∧ Outs lo hi w0 (w.setCells g (k * 2) vs) := by
  obtain ⟨xs, h1, h2⟩ := h
  obtain ⟨g, rfl, g1, g2, g3, g4⟩ := owns_some h1 (by omega)
  obtain ⟨q1, q2⟩ := owns_setCells vs (k * 2) w _ h1
  have ty : ∀ b, (some g : Option Nat) = some b → ∃ c, w.heap[b]? = some (.cells c 44 (0, 0)) := fun b e => by cases e; exact owns_ty h1 g rfl
  refine ⟨g, rfl, g3, g4, owns_there h1 hk, ⟨_, q1, h2⟩, fun f => f.grown q2 ty (by decide), fun f => f.grown q2 ty (by decide), o.step q2 fun b e => ?_⟩
  cases e
  exact .inl ⟨g1, h2 g rfl⟩
/-- Lists that were decoded may be written. -/
theorem fam_of {lo : Nat} {w : World} {a : Option Addr} {n c s : Nat} {P : List (List Pl)} (h : QOwn w lo (.slice a n c) P) (hn : P.length = n) : ∃ V, FO lo w.heap.size w a n c V ∧ FI lo w.heap.size s w n V (fun i => P.getD i []) := by
  obtain ⟨f, h1, h2, h3⟩ := h
  rw [hn] at h1 h3
  have hg : ∀ i, i < n → P[i]? = some (P.getD i []) := fun i hi => by rw [List.getD_eq_getElem?_getD, List.getElem?_eq_getElem (by omega)]; rfl
  refine ⟨f, ⟨h1, fun b e => (h1.lt b e).2⟩, fun i hi => (h2 i _ (hg i hi)).1, fun i b hi e => .inl ((h2 i _ (hg i hi)).1.lt b e), fun i j b hi hj e1 e2 => ?_⟩
  rcases Nat.lt_trichotomy i j with q | q | q
  · have := h3 i j q hj b b e1 e2; omega
  · exact q
  · have := h3 j i q hi b b e2 e1; omega
/-! ### Which widths they have -/
def AllW (j : Nat) (l : List Pl) : Prop := l.length ≤ 1024 ∧ ∀ p ∈ l, p.1 = (j : Int)
def MidW (j m : Nat) (l : List Pl) : Prop := ∃ A B, l = A ++ B ∧ AllW j A ∧ B.length = m ∧ ∀ p ∈ B, p.1 = 100 + (j : Int)
def CndW (j : Nat) (l : List Pl) : Prop := l.length ≤ 1044 ∧ ∀ k p, l[k]? = some p → p.1 = (j : Int) ∨ (l.length ≤ k + 20 ∧ p.1 = 100 + (j : Int))
theorem AllW.mid {j : Nat} {l : List Pl} (h : AllW j l) : MidW j 0 l := ⟨l, [], by simp, h, rfl, fun p hp => by cases hp⟩
theorem MidW.more {j m : Nat} {l : List Pl} (h : MidW j m l) {p : Pl} (hp : p.1 = 100 + (j : Int)) : MidW j (m + 1) (l ++ [p]) := by
  obtain ⟨A, B, rfl, h1, h2, h3⟩ := h
  refine ⟨A, B ++ [p], by simp, h1, by simp [h2], fun q hq => ?_⟩
  rcases List.mem_append.1 hq with hq | hq
  · exact h3 q hq
  · obtain rfl : q = p := by simpa using hq
    exact hp
theorem MidW.len {j m : Nat} {l : List Pl} (h : MidW j m l) : l.length ≤ 1024 + m := by
  obtain ⟨A, B, rfl, h1, h2, h3⟩ := h
  have := h1.1
  rw [List.length_append]; omega
theorem MidW.cnd {j : Nat} {l : List Pl} (h : MidW j 20 l) : CndW j l := by
  refine ⟨by have := h.len; omega, fun k p hk => ?_⟩
  obtain ⟨A, B, rfl, h1, h2, h3⟩ := h
  rcases Nat.lt_or_ge k A.length with q | q
  · rw [List.getElem?_append_left q] at hk
    exact .inl (h1.2 p (List.mem_of_getElem? hk))
  · rw [List.getElem?_append_right q] at hk
    exact .inr ⟨by rw [List.length_append]; omega, h3 p (List.mem_of_getElem? hk)⟩
/-- The first k plans have this width. -/
def FstW (j k : Nat) (l : List Pl) : Prop := l.length ≤ 1024 ∧ ∀ q p, q < k → l[q]? = some p → p.1 = (j : Int)
theorem FstW.all {j : Nat} {l : List Pl} (h : FstW j l.length l) : AllW j l := ⟨h.1, fun p hp => by
  obtain ⟨q, hq⟩ := List.getElem?_of_mem hp
  exact h.2 q p (List.getElem?_eq_some_iff.1 hq).1 hq⟩
theorem FstW.set {j k : Nat} {l : List Pl} (h : FstW j k l) (hk : k < l.length) {p : Pl} (hp : p.1 = (j : Int)) : FstW j (k + 1) (l.set k p) := by
  refine ⟨by rw [List.length_set]; exact h.1, fun q p' hq e => ?_⟩
  by_cases c : q = k
  · subst c
    rw [List.getElem?_set_self hk] at e
    cases e
    exact hp
  · rw [List.getElem?_set_ne (fun x => c x.symm)] at e
    exact h.2 q p' (by omega) e
end Go.Proofs.Ythlnhodfgmpabaa.Sl
