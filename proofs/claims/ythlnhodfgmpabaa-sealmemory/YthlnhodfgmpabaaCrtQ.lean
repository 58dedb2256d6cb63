/- The document's Copy of layer 15: what it returns. -/
import Derived.Test.YthlnhodfgmpabaaCeA
namespace Go.Proofs.Ythlnhodfgmpabaa
open Go.ChangeShapes Go.WideShapes Go.ChangeAt Go.RowKit
set_option linter.unusedVariables false
theorem flat_len {α : Type} {nc : Nat} {E : α → List Value} (hE : ∀ p, (E p).length = nc) : ∀ ys : List α, (ys.flatMap E).length = ys.length * nc
  | [] => by simp
  | p :: r => by rw [List.flatMap_cons, List.length_append, hE, flat_len hE r, List.length_cons, Nat.add_mul, Nat.one_mul, Nat.add_comm]
theorem flat_at {α : Type} {nc : Nat} {E : α → List Value} (hE : ∀ p, (E p).length = nc) : ∀ (ys : List α) (j : Nat) (u : Value), (ys.flatMap E)[j]? = some u → ∃ i p q, ys[i]? = some p ∧ (E p)[q]? = some u ∧ j = i * nc + q
  | [], j, u, h => by simp at h
  | p :: r, j, u, h => by
    rw [List.flatMap_cons] at h
    rcases Nat.lt_or_ge j nc with g | g
    · rw [List.getElem?_append_left (by rw [hE]; exact g)] at h
      exact ⟨0, p, j, rfl, h, by omega⟩
    · rw [List.getElem?_append_right (by rw [hE]; exact g), hE] at h
      obtain ⟨i, p', q, h1, h2, h3⟩ := flat_at hE r _ u h
      exact ⟨i + 1, p', q, by simpa using h1, h2, by rw [Nat.add_mul, Nat.one_mul]; omega⟩
theorem flat_of {α : Type} {nc : Nat} {E : α → List Value} (hE : ∀ p, (E p).length = nc) : ∀ (ys : List α) (i : Nat) (p : α) (q : Nat) (u : Value), ys[i]? = some p → (E p)[q]? = some u → (ys.flatMap E)[i * nc + q]? = some u
  | [], i, p, q, u, h, _ => by simp at h
  | p' :: r, 0, p, q, u, h, hq => by
    simp only [List.getElem?_cons_zero, Option.some.injEq] at h
    subst h
    rw [List.flatMap_cons, Nat.zero_mul, Nat.zero_add, List.getElem?_append_left (List.getElem?_eq_some_iff.1 hq).1]
    exact hq
  | p' :: r, i + 1, p, q, u, h, hq => by
    rw [List.flatMap_cons, List.getElem?_append_right (by rw [hE, Nat.add_mul]; omega), hE, show (i + 1) * nc + q - nc = i * nc + q by rw [Nat.add_mul]; omega]
    exact flat_of hE r i p q u (by simpa using h) hq
theorem scs_len (p : Int × Int) : (scs p).length = 2 := rfl
theorem pcs_len (p : Pl) : (pcs p).length = 6 := rfl
theorem scs_one (p : Int × Int) : ∀ u ∈ scs p, u.oneCell' = true := by simp [scs, Value.oneCell']
theorem pcs_one (p : Pl) : ∀ u ∈ pcs p, u.oneCell' = true := by simp [pcs, Value.oneCell']
/-- What is owned is read. -/
theorem owns_erow {α : Type} {nc : Nat} {E : α → List Value} (hE : ∀ p, (E p).length = nc) {w : World} {base : Nat} {T : TypeId} {a : Option Addr} {n cap : Nat} {ys : List α} (h : w.ownsRow base T nc (.slice a n cap) n (ys.flatMap E)) (hl : ys.length = n) : ERow nc E w a n cap ys := by
  rcases h.2 with ⟨e, e0⟩ | ⟨g, cap', cur, e, hb, hg, hn, hm, hs, ht⟩
  · cases e
    exact ⟨hl, Nat.le_refl _, by unfold maxLen; omega, fun _ => rfl, fun x hx => by cases hx⟩
  · cases e
    refine ⟨hl, hn, hm, fun q => (by cases q), fun x hx i p hp j v hv => ?_⟩
    cases hx
    rw [Addr.add_add]
    exact h.cells rfl _ _ (flat_of hE ys i p j v hp hv)
/-- 'append' to an empty list of the call's own, from whatever slice of flat structs. -/
theorem wpList_appE {α : Type} {nc by8 : Nat} {T S : TypeId} {zv : Value} (E : α → List Value) (hE : ∀ p, (E p).length = nc) (h1 : ∀ p, ∀ u ∈ E p, u.oneCell' = true) (hu : Try.prog.underlying S = some (.slice T)) (hin : (Try.prog.info? T).map (fun i => (i.zero, i.size, i.bytes)) = some (some zv, nc, by8)) (hzs : zv.cells.size = nc) (hnc : 0 < nc) (hby : 1 ≤ by8)
    {w : World} {ops : Array Oper} {rest : List Oper} {o : Oper} {a : Act} {Q : Exit → Act → World → Prop} (hgd : o.guard = none) (s x : Operand)
    (ho : o.op = .call { callee := .builtin .append, args := #[s, x], argTypes := #[S, S] })
    (base : Nat) (v : Value) (ys : List α) (hs : a.eval s = v) (hown : w.ownsRow base T nc v 0 []) (ao : Option Addr) (m c : Nat) (hx : a.eval x = .slice ao m c) (hy : ERow nc E w ao m c ys)
    (hlen : m * by8 ≤ 140737488351232) (hbase : base ≤ w.heap.size)
    (h : ∀ v' w', w'.ownsRow base T nc v' m (ys.flatMap E) → w.grownBy w' v.ownBlock → (v ≠ .slice none 0 0 → v' ≠ .slice none 0 0) → wpList Try.prog ops Q rest (a.put o.dst v') w') : wpList Try.prog ops Q (o :: rest) a w := by
  obtain ⟨i0, hi, hz0, hz1, hz2⟩ := info_parts hin
  obtain ⟨hl, hc, hm, hn, hcell⟩ := hy
  have hm2 : m ≤ 140737488351232 := Nat.le_trans (Nat.le_mul_of_pos_right m (by omega)) hlen
  cases ao with
  | none =>
    obtain rfl : c = 0 := hn rfl
    obtain rfl : m = 0 := by omega
    obtain rfl : ys = [] := List.eq_nil_of_length_eq_zero hl
    refine wpList_append_own_none hgd s x _ ho base T i0 nc hu hi v 0 _ hs hown hx ?_
    exact h v w hown ⟨rfl, rfl, rfl, Nat.le_refl _, fun _ _ _ => rfl⟩ (fun q => q)
  | some ad =>
    refine wpList_append_own _ hgd s x _ ho base T i0 zv nc by8 hu hi hz0 hz1 hz2 hzs hnc v 0 _ hs hown ad m c (ys.flatMap E) hx (by rw [flat_len hE, hl]) ?_ ?_ ?_ ?_ hbase ?_
    · intro j u hj
      obtain ⟨i, p, q, g1, g2, rfl⟩ := flat_at hE ys j u hj
      rw [← Addr.add_add]
      exact hcell ad rfl i p g1 q u g2
    · intro u hu'
      obtain ⟨p, -, hp⟩ := List.mem_flatMap.1 hu'
      exact h1 p u hp
    · unfold maxLen; omega
    · rw [Nat.zero_add]; omega
    · intro v' w' g1 g2 g3
      rw [Nat.zero_add] at g1
      exact h v' w' (by simpa using g1) g2 (fun hv hv' => hv (g3.1 hv').1)
theorem owns_grown {w w' : World} {base : Nat} {e T : TypeId} {size : Nat} {v : Value} {n : Nat} {xs : List Value} {row : Option Nat} (h : w.ownsRow base e size v n xs) (q : w.grownBy w' row) (hr : ∀ b, row = some b → ∃ c, w.heap[b]? = some (.cells c T (0, 0))) (hT : T ≠ e) : w'.ownsRow base e size v n xs := by
  refine h.kept q ?_
  cases hb : row with
  | none => cases hv : v.ownBlock with
    | none => exact .inl rfl
    | some b => exact .inr (by simp)
  | some b =>
    obtain ⟨c, hc⟩ := hr b hb
    exact .inr (fun e' => own_ne h hc hT e'.symm)
theorem owns_below {w w' : World} {base : Nat} {e : TypeId} {size : Nat} {v : Value} {n : Nat} {xs : List Value} (h : w.ownsRow base e size v n xs) (q : Below w.heap.size w w') : w'.ownsRow base e size v n xs := by
  refine h.kept (row := none) ⟨q.os, q.tape, q.output, q.size, fun i hi _ => q.block i hi⟩ ?_
  cases hv : v.ownBlock with
  | none => exact .inl rfl
  | some b => exact .inr (by simp)
theorem owns_base {w : World} {b c : Nat} {e : TypeId} {size : Nat} {v : Value} {n : Nat} {xs : List Value} (h : w.ownsRow b e size v n xs) (q : c ≤ b) : w.ownsRow c e size v n xs := by
  refine ⟨h.1, ?_⟩
  rcases h.2 with h | ⟨g, cap, cur, h1, h2, h3⟩
  · exact .inl h
  · exact .inr ⟨g, cap, cur, h1, Nat.le_trans q h2, h3⟩
theorem owns_ty {w : World} {base : Nat} {e : TypeId} {size : Nat} {v : Value} {n : Nat} {xs : List Value} (h : w.ownsRow base e size v n xs) : ∀ b, v.ownBlock = some b → ∃ c, w.heap[b]? = some (.cells c e (0, 0)) := fun b hb => by
  rcases h.2 with ⟨rfl, -⟩ | ⟨f, cap, cur, rfl, -, h3, -⟩
  · simp [Value.ownBlock] at hb
  · obtain rfl : f = b := by simpa [Value.ownBlock] using hb
    exact ⟨cur, h3⟩
theorem owns_slice {w : World} {base : Nat} {e : TypeId} {size : Nat} {v : Value} {n : Nat} {xs : List Value} (h : w.ownsRow base e size v n xs) : ∃ a cap, v = .slice a n cap := by
  rcases h.2 with ⟨rfl, rfl⟩ | ⟨f, cap, cur, rfl, -⟩
  · exact ⟨_, _, rfl⟩
  · exact ⟨_, _, rfl⟩
/-- Copied plans: a list of lists, each owned, each in a block of its own. -/
def QOwn (w : World) (base : Nat) (v : Value) (P : List (List Pl)) : Prop :=
  ∃ f : Nat → Value, w.ownsRow base 45 1 v P.length ((List.range P.length).map f) ∧ (∀ i l, P[i]? = some l → w.ownsRow base 47 6 (f i) l.length (l.flatMap pcs) ∧ l.length * 48 ≤ 140737488351232) ∧
    ∀ i j, i < j → j < P.length → ∀ b b', (f i).ownBlock = some b → (f j).ownBlock = some b' → b < b'
theorem QOwn.below {w w' : World} {base : Nat} {v : Value} {P : List (List Pl)} (h : QOwn w base v P) (q : Below w.heap.size w w') : QOwn w' base v P := by
  obtain ⟨f, h1, h2, h3⟩ := h
  exact ⟨f, owns_below h1 q, fun i l hl => ⟨owns_below (h2 i l hl).1 q, (h2 i l hl).2⟩, h3⟩
theorem QOwn.nil (w : World) (base : Nat) : QOwn w base (.slice none 0 0) [] := ⟨fun _ => .slice none 0 0, World.ownsRow_nil _ _ _ _, fun i l hl => by simp at hl, fun i j _ hj => by simp at hj⟩
theorem QOwn.slice {w : World} {base : Nat} {v : Value} {P : List (List Pl)} (h : QOwn w base v P) : ∃ a cap, v = .slice a P.length cap := by
  obtain ⟨f, h1, -⟩ := h
  exact owns_slice h1
/-- What was copied is read. -/
theorem QOwn.q {w : World} {base : Nat} {a : Option Addr} {n cap : Nat} {P : List (List Pl)} (h : QOwn w base (.slice a n cap) P) : QRow w a n cap P := by
  obtain ⟨f, h1, h2, -⟩ := h
  rcases h1.2 with ⟨e, e0⟩ | ⟨g, cap', cur, e, hb, hg, hn, hm, hs, ht⟩
  · cases e
    exact ⟨e0, Nat.le_refl _, by unfold maxLen; omega, fun _ => rfl, fun x hx => by cases hx⟩
  · cases e
    refine ⟨rfl, hn, hm, fun q => (by cases q), fun x hx i l hl => ?_⟩
    cases hx
    have hi : i < P.length := (List.getElem?_eq_some_iff.1 hl).1
    obtain ⟨g1, g2⟩ := h2 i l hl
    obtain ⟨ca, cc, e⟩ := owns_slice g1
    refine ⟨ca, cc, ?_, ?_, g2⟩
    · refine h1.cells rfl _ _ ?_
      rw [List.getElem?_map, List.getElem?_range hi, Option.map_some, e]
    · rw [e] at g1
      exact owns_erow pcs_len g1 rfl
end Go.Proofs.Ythlnhodfgmpabaa
