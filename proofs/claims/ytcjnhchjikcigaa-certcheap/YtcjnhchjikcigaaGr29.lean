/- The document's Copy of layer 15: what it returns. The walk of the document's Copy of layer 15. The walk of CertSames. -/
import Derived.Test.YtcjnhchjikcigaaGr03
import Derived.Test.YtcjnhchjikcigaaGr15
import Derived.Test.YtcjnhchjikcigaaGr26
/- The document's Copy of layer 15: what it returns. -/
namespace Go.Proofs.Ytcjnhchjikcigaa
open Go.ChangeShapes Go.WideShapes Go.ChangeAt Go.RowKit
set_option linter.unusedVariables false
theorem flat_len {α : Type} {nc : Nat} {E : α → List Value} (hE : ∀ p, (E p).length = nc) : ∀ ys : List α, (ys.flatMap E).length = ys.length * nc
  | [] => by simp
  | p :: r => by rw [List.flatMap_cons, List.length_append, hE, flat_len hE r, List.length_cons, Nat.add_mul, Nat.one_mul, Nat.add_comm]
theorem flat_at {α : Type} {nc : Nat} {E : α → List Value} (hE : ∀ p, (E p).length = nc) : ∀ (ys : List α) (j : Nat) (u : Value), (ys.flatMap E)[j]? = some u → ∃ i p q, ys[i]? = some p ∧ (E p)[q]? = some u ∧ j = i * nc + q
  | [], j, u, h => by simp at h
  | p :: r, j, u, h => by
    rw [List.flatMap_cons] at h
    rcases Nat.lt_or_ge j nc with g | g
    · rw [List.getElem?_append_left (by rw [hE]; exact g)] at h
      exact ⟨0, p, j, rfl, h, by omega⟩
    · rw [List.getElem?_append_right (by rw [hE]; exact g), hE] at h
      obtain ⟨i, p', q, h1, h2, h3⟩ := flat_at hE r _ u h
      exact ⟨i + 1, p', q, by simpa using h1, h2, by rw [Nat.add_mul, Nat.one_mul]; omega⟩
theorem flat_of {α : Type} {nc : Nat} {E : α → List Value} (hE : ∀ p, (E p).length = nc) : ∀ (ys : List α) (i : Nat) (p : α) (q : Nat) (u : Value), ys[i]? = some p → (E p)[q]? = some u → (ys.flatMap E)[i * nc + q]? = some u
  | [], i, p, q, u, h, _ => by simp at h
  | p' :: r, 0, p, q, u, h, hq => by
    simp only [List.getElem?_cons_zero, Option.some.injEq] at h
    subst h
    rw [List.flatMap_cons, Nat.zero_mul, Nat.zero_add, List.getElem?_append_left (List.getElem?_eq_some_iff.1 hq).1]
    exact hq
  | p' :: r, i + 1, p, q, u, h, hq => by
    rw [List.flatMap_cons, List.getElem?_append_right (by rw [hE, Nat.add_mul]; omega), hE, show (i + 1) * nc + q - nc = i * nc + q by rw [Nat.add_mul]; omega]
    exact flat_of hE r i p q u (by simpa using h) hq
theorem scs_len (p : Int × Int) : (scs p).length = 2 := rfl
theorem pcs_len (p : Pl) : (pcs p).length = 6 := rfl
theorem scs_one (p : Int × Int) : ∀ u ∈ scs p, u.oneCell' = true := by simp [scs, Value.oneCell']
theorem pcs_one (p : Pl) : ∀ u ∈ pcs p, u.oneCell' = true := by simp [pcs, Value.oneCell']
/-- What is owned is read. -/
theorem owns_erow {α : Type} {nc : Nat} {E : α → List Value} (hE : ∀ p, (E p).length = nc) {w : World} {base : Nat} {T : TypeId} {a : Option Addr} {n cap : Nat} {ys : List α} (h : w.ownsRow base T nc (.slice a n cap) n (ys.flatMap E)) (hl : ys.length = n) : ERow nc E w a n cap ys := by
  rcases h.2 with ⟨e, e0⟩ | ⟨g, cap', cur, e, hb, hg, hn, hm, hs, ht⟩
  · cases e
    exact ⟨hl, Nat.le_refl _, by unfold maxLen; omega, fun _ => rfl, fun x hx => by cases hx⟩
  · cases e
    refine ⟨hl, hn, hm, fun q => (by cases q), fun x hx i p hp j v hv => ?_⟩
    cases hx
    rw [Addr.add_add]
    exact h.cells rfl _ _ (flat_of hE ys i p j v hp hv)
/-- 'append' to an empty list of the call's own, from whatever slice of flat structs. -/
theorem wpList_appE {α : Type} {nc by8 : Nat} {T S : TypeId} {zv : Value} (E : α → List Value) (hE : ∀ p, (E p).length = nc) (h1 : ∀ p, ∀ u ∈ E p, u.oneCell' = true) (hu : Try.prog.underlying S = some (.slice T)) (hin : (Try.prog.info? T).map (fun i => (i.zero, i.size, i.bytes)) = some (some zv, nc, by8)) (hzs : zv.cells.size = nc) (hnc : 0 < nc) (hby : 1 ≤ by8)
    {w : World} {ops : Array Oper} {rest : List Oper} {o : Oper} {a : Act} {Q : Exit → Act → World → Prop} (hgd : o.guard = none) (s x : Operand)
    (ho : o.op = .call { callee := .builtin .append, args := #[s, x], argTypes := #[S, S] })
    (base : Nat) (v : Value) (ys : List α) (hs : a.eval s = v) (hown : w.ownsRow base T nc v 0 []) (ao : Option Addr) (m c : Nat) (hx : a.eval x = .slice ao m c) (hy : ERow nc E w ao m c ys)
    (hlen : m * by8 ≤ 140737488351232) (hbase : base ≤ w.heap.size)
    (h : ∀ v' w', w'.ownsRow base T nc v' m (ys.flatMap E) → w.grownBy w' v.ownBlock → (v ≠ .slice none 0 0 → v' ≠ .slice none 0 0) → wpList Try.prog ops Q rest (a.put o.dst v') w') : wpList Try.prog ops Q (o :: rest) a w := by
  obtain ⟨i0, hi, hz0, hz1, hz2⟩ := info_parts hin
  obtain ⟨hl, hc, hm, hn, hcell⟩ := hy
  have hm2 : m ≤ 140737488351232 := Nat.le_trans (Nat.le_mul_of_pos_right m (by omega)) hlen
  cases ao with
  | none =>
    obtain rfl : c = 0 := hn rfl
    obtain rfl : m = 0 := by omega
    obtain rfl : ys = [] := List.eq_nil_of_length_eq_zero hl
    refine wpList_append_own_none hgd s x _ ho base T i0 nc hu hi v 0 _ hs hown hx ?_
    exact h v w hown ⟨rfl, rfl, rfl, Nat.le_refl _, fun _ _ _ => rfl⟩ (fun q => q)
  | some ad =>
    refine wpList_append_own _ hgd s x _ ho base T i0 zv nc by8 hu hi hz0 hz1 hz2 hzs hnc v 0 _ hs hown ad m c (ys.flatMap E) hx (by rw [flat_len hE, hl]) ?_ ?_ ?_ ?_ hbase ?_
    · intro j u hj
      obtain ⟨i, p, q, g1, g2, rfl⟩ := flat_at hE ys j u hj
      rw [← Addr.add_add]
      exact hcell ad rfl i p g1 q u g2
    · intro u hu'
      obtain ⟨p, -, hp⟩ := List.mem_flatMap.1 hu'
      exact h1 p u hp
    · unfold maxLen; omega
    · rw [Nat.zero_add]; omega
    · intro v' w' g1 g2 g3
      rw [Nat.zero_add] at g1
      exact h v' w' (by simpa using g1) g2 (fun hv hv' => hv (g3.1 hv').1)
theorem owns_grown {w w' : World} {base : Nat} {e T : TypeId} {size : Nat} {v : Value} {n : Nat} {xs : List Value} {row : Option Nat} (h : w.ownsRow base e size v n xs) (q : w.grownBy w' row) (hr : ∀ b, row = some b → ∃ c, w.heap[b]? = some (.cells c T (0, 0))) (hT : T ≠ e) : w'.ownsRow base e size v n xs := by
  refine h.kept q ?_
  cases hb : row with
  | none => cases hv : v.ownBlock with
    | none => exact .inl rfl
    | some b => exact .inr (by simp)
  | some b =>
    obtain ⟨c, hc⟩ := hr b hb
    exact .inr (fun e' => own_ne h hc hT e'.symm)
theorem owns_below {w w' : World} {base : Nat} {e : TypeId} {size : Nat} {v : Value} {n : Nat} {xs : List Value} (h : w.ownsRow base e size v n xs) (q : Below w.heap.size w w') : w'.ownsRow base e size v n xs := by
  refine h.kept (row := none) ⟨q.os, q.tape, q.output, q.size, fun i hi _ => q.block i hi⟩ ?_
  cases hv : v.ownBlock with
  | none => exact .inl rfl
  | some b => exact .inr (by simp)
theorem owns_base {w : World} {b c : Nat} {e : TypeId} {size : Nat} {v : Value} {n : Nat} {xs : List Value} (h : w.ownsRow b e size v n xs) (q : c ≤ b) : w.ownsRow c e size v n xs := by
  refine ⟨h.1, ?_⟩
  rcases h.2 with h | ⟨g, cap, cur, h1, h2, h3⟩
  · exact .inl h
  · exact .inr ⟨g, cap, cur, h1, Nat.le_trans q h2, h3⟩
theorem owns_ty {w : World} {base : Nat} {e : TypeId} {size : Nat} {v : Value} {n : Nat} {xs : List Value} (h : w.ownsRow base e size v n xs) : ∀ b, v.ownBlock = some b → ∃ c, w.heap[b]? = some (.cells c e (0, 0)) := fun b hb => by
  rcases h.2 with ⟨rfl, -⟩ | ⟨f, cap, cur, rfl, -, h3, -⟩
  · simp [Value.ownBlock] at hb
  · obtain rfl : f = b := by simpa [Value.ownBlock] using hb
    exact ⟨cur, h3⟩
theorem owns_slice {w : World} {base : Nat} {e : TypeId} {size : Nat} {v : Value} {n : Nat} {xs : List Value} (h : w.ownsRow base e size v n xs) : ∃ a cap, v = .slice a n cap := by
  rcases h.2 with ⟨rfl, rfl⟩ | ⟨f, cap, cur, rfl, -⟩
  · exact ⟨_, _, rfl⟩
  · exact ⟨_, _, rfl⟩
/-- Copied plans: a list of lists, each owned, each in a block of its own. -/
def QOwn (w : World) (base : Nat) (v : Value) (P : List (List Pl)) : Prop :=
  ∃ f : Nat → Value, w.ownsRow base 56 1 v P.length ((List.range P.length).map f) ∧ (∀ i l, P[i]? = some l → w.ownsRow base 61 6 (f i) l.length (l.flatMap pcs) ∧ l.length * 48 ≤ 140737488351232) ∧
    ∀ i j, i < j → j < P.length → ∀ b b', (f i).ownBlock = some b → (f j).ownBlock = some b' → b < b'
theorem QOwn.below {w w' : World} {base : Nat} {v : Value} {P : List (List Pl)} (h : QOwn w base v P) (q : Below w.heap.size w w') : QOwn w' base v P := by
  obtain ⟨f, h1, h2, h3⟩ := h
  exact ⟨f, owns_below h1 q, fun i l hl => ⟨owns_below (h2 i l hl).1 q, (h2 i l hl).2⟩, h3⟩
theorem QOwn.nil (w : World) (base : Nat) : QOwn w base (.slice none 0 0) [] := ⟨fun _ => .slice none 0 0, World.ownsRow_nil _ _ _ _, fun i l hl => by simp at hl, fun i j _ hj => by simp at hj⟩
theorem QOwn.slice {w : World} {base : Nat} {v : Value} {P : List (List Pl)} (h : QOwn w base v P) : ∃ a cap, v = .slice a P.length cap := by
  obtain ⟨f, h1, -⟩ := h
  exact owns_slice h1
/-- What was copied is read. -/
theorem QOwn.q {w : World} {base : Nat} {a : Option Addr} {n cap : Nat} {P : List (List Pl)} (h : QOwn w base (.slice a n cap) P) : QRow w a n cap P := by
  obtain ⟨f, h1, h2, -⟩ := h
  rcases h1.2 with ⟨e, e0⟩ | ⟨g, cap', cur, e, hb, hg, hn, hm, hs, ht⟩
  · cases e
    exact ⟨e0, Nat.le_refl _, by unfold maxLen; omega, fun _ => rfl, fun x hx => by cases hx⟩
  · cases e
    refine ⟨rfl, hn, hm, fun q => (by cases q), fun x hx i l hl => ?_⟩
    cases hx
    have hi : i < P.length := (List.getElem?_eq_some_iff.1 hl).1
    obtain ⟨g1, g2⟩ := h2 i l hl
    obtain ⟨ca, cc, e⟩ := owns_slice g1
    refine ⟨ca, cc, ?_, ?_, g2⟩
    · refine h1.cells rfl _ _ ?_
      rw [List.getElem?_map, List.getElem?_range hi, Option.map_some, e]
    · rw [e] at g1
      exact owns_erow pcs_len g1 rfl
end Go.Proofs.Ytcjnhchjikcigaa

/- The walk of the document's Copy of layer 15. -/
namespace Go.Proofs.Ytcjnhchjikcigaa
open Go.ChangeShapes Go.WideShapes Go.ChangeAt Go.RowKit
set_option linter.unusedVariables false
/-- The first k lists, copied. -/
def QOk (w : World) (base : Nat) (v : Value) (P : List (List Pl)) (k : Nat) : Prop :=
  ∃ f : Nat → Value, w.ownsRow base 56 1 v k ((List.range k).map f) ∧ (∀ i l, i < k → P[i]? = some l → w.ownsRow base 61 6 (f i) l.length (l.flatMap pcs) ∧ l.length * 48 ≤ 140737488351232) ∧
    ∀ i j, i < j → j < k → ∀ b b', (f i).ownBlock = some b → (f j).ownBlock = some b' → b < b'
theorem QOk.below {w w' : World} {base : Nat} {v : Value} {P : List (List Pl)} {k : Nat} (h : QOk w base v P k) (q : Below w.heap.size w w') : QOk w' base v P k := by
  obtain ⟨f, h1, h2, h3⟩ := h
  exact ⟨f, owns_below h1 q, fun i l hi hl => ⟨owns_below (h2 i l hi hl).1 q, (h2 i l hi hl).2⟩, h3⟩
theorem QOk.nil (w : World) (base : Nat) (P : List (List Pl)) : QOk w base (.slice none 0 0) P 0 := ⟨fun _ => .slice none 0 0, World.ownsRow_nil _ _ _ _, fun i l hl => by omega, fun i j _ hj => by omega⟩
theorem QOk.slice {w : World} {base : Nat} {v : Value} {P : List (List Pl)} {k : Nat} (h : QOk w base v P k) : ∃ a cap, v = .slice a k cap := by
  obtain ⟨f, h1, -⟩ := h
  exact owns_slice h1
theorem QOk.all {w : World} {base : Nat} {v : Value} {P : List (List Pl)} {k : Nat} (h : QOk w base v P k) (hk : P.length = k) : QOwn w base v P := by
  subst hk
  obtain ⟨f, h1, h2, h3⟩ := h
  exact ⟨f, h1, fun i l hl => h2 i l (List.getElem?_eq_some_iff.1 hl).1 hl, h3⟩
theorem QOk.other {w w' : World} {base : Nat} {v : Value} {P : List (List Pl)} {k : Nat} (h : QOk w base v P k) (q : ∀ (g : Nat) (c : Array Value) (t : TypeId), t ≠ 30 → w.heap[g]? = some (.cells c t (0, 0)) → w'.heap[g]? = some (.cells c t (0, 0))) : QOk w' base v P k := by
  obtain ⟨f, h1, h2, h3⟩ := h
  exact ⟨f, owns_other h1 (fun g c => q g c _ (by decide)), fun i l hi hl => ⟨owns_other (h2 i l hi hl).1 (fun g c => q g c _ (by decide)), (h2 i l hi hl).2⟩, h3⟩
theorem QOk.add {w w' : World} {base B : Nat} {v v' nv : Value} {P : List (List Pl)} {k : Nat} {l : List Pl} (f : Nat → Value)
    (h2 : ∀ i l, i < k → P[i]? = some l → w.ownsRow base 61 6 (f i) l.length (l.flatMap pcs) ∧ l.length * 48 ≤ 140737488351232) (h3 : ∀ i j, i < j → j < k → ∀ b b', (f i).ownBlock = some b → (f j).ownBlock = some b' → b < b')
    (hB : ∀ i, i < k → ∀ b, (f i).ownBlock = some b → b < B) (hk : P[k]? = some l) (hn : w.ownsRow B 61 6 nv l.length (l.flatMap pcs)) (hbB : base ≤ B) (hlr : l.length * 48 ≤ 140737488351232) (hv : ∀ b, v.ownBlock = some b → ∃ c, w.heap[b]? = some (.cells c 56 (0, 0))) (g : w.grownBy w' v.ownBlock)
    (hown : w'.ownsRow base 56 1 v' (k + 1) ((List.range k).map f ++ [nv])) : QOk w' base v' P (k + 1) := by
  refine ⟨fun i => if i = k then nv else f i, ?_, fun i l' hi hl' => ?_, fun i j hij hj b b' hb hb' => ?_⟩
  · have e : (List.range (k + 1)).map (fun i => if i = k then nv else f i) = (List.range k).map f ++ [nv] := by
      rw [List.range_succ, List.map_append]
      simp only [List.map_cons, List.map_nil, if_true]
      refine congrArg (· ++ [nv]) (List.map_congr_left fun i hi => ?_)
      have : i < k := by simpa using hi
      simp [show i ≠ k by omega]
    rw [e]
    exact hown
  · by_cases e : i = k
    · subst e
      rw [hk] at hl'
      cases hl'
      simp only [if_true]
      exact ⟨owns_base (owns_grown hn g hv (by decide)) hbB, hlr⟩
    · simp only [e, if_false]
      exact ⟨owns_grown (h2 i l' (by omega) hl').1 g hv (by decide), (h2 i l' (by omega) hl').2⟩
  · simp only [show i ≠ k by omega, if_false] at hb
    by_cases e : j = k
    · subst e
      simp only [if_true] at hb'
      have := (hn.lt b' hb').1
      have := hB i hij b hb
      omega
    · simp only [e, if_false] at hb'
      exact h3 i j hij (by omega) b b' hb hb'
theorem lit6 (w : World) : (w.alloc (.cells #[] 61)).ownsRow w.heap.size 61 6 (.slice (some ⟨w.heap.size, 0, none⟩) 0 0) 0 [] :=
  World.ownsRow_lit (base := w.heap.size) (e := 61) (size := 6) w #[] 0 (Nat.le_refl _) (by unfold maxLen; omega) rfl
theorem lit2 (w : World) (b : Nat) (hb : b ≤ w.heap.size) : (w.alloc (.cells #[] 59)).ownsRow b 59 2 (.slice (some ⟨w.heap.size, 0, none⟩) 0 0) 0 [] :=
  World.ownsRow_lit (base := b) (e := 59) (size := 2) w #[] 0 hb (by unfold maxLen; omega) rfl
theorem new1 {w : World} {v : Value} {t : TypeId} : ∀ j u, [v][j]? = some u → (w.alloc (.cells #[v] t)).cell? ((⟨w.heap.size, 0, none⟩ : Addr).add j) = some u := by
  intro j u hu
  rw [Addr.add_lit, Nat.zero_add, (cells_at (heap_alloc_new w (.cells #[v] t))).1]
  simpa using hu
set_option maxHeartbeats 4000000 in
set_option maxRecDepth 100000 in
theorem ccopy_any (ra : Option Addr) (rn rc : Nat) (R : List (Int × Int)) (pa : Option Addr) (pn pc : Nat) (P : List (List Pl)) (W : World) (hR : ERow 2 scs W ra rn rc R) (hP : QRow W pa pn pc P) (hrn : rn * 16 ≤ 140737488351232) (hpn : pn * 24 ≤ 140737488351232) :
    Calls Try.prog 8 #[.agg #[.slice ra rn rc, .slice pa pn pc]] W fun e w' => ∃ ra' rc' pa' pc', e = .returned (.agg #[.slice ra' rn rc', .slice pa' pn pc']) ∧ w'.ownsRow W.heap.size 59 2 (.slice ra' rn rc') rn (R.flatMap scs) ∧ QOwn w' W.heap.size (.slice pa' pn pc') P ∧ Below W.heap.size W w' := by
  have l1 := hP.2.1
  have l2 := hP.2.2.1
  have l3 := hR.2.1
  have l4 := hR.2.2.1
  unfold maxLen at l2 l4
  have H1 : Hid (ERow 2 scs W ra rn rc R) := hR
  have H2 : Hid (QRow W pa pn pc P) := hP
  clear hR hP
  have s0 := ((St.start W).new (c := #[.slice ra rn rc, .slice pa pn pc]) (t := 30)).new (c := #[.slice none 0 0, .slice none 0 0]) (t := 30)
  simp only [World.size_alloc] at s0
  have H0 : Hid (St W _ ([(W.heap.size + 1, #[.slice none 0 0, .slice none 0 0], 30), (W.heap.size, #[.slice ra rn rc, .slice pa pn pc], 30)])) := s0
  clear s0
  go_enter Try.func8, Try.ntmps8
  go_wp2
  go_loopw [3, 9] (fun v i wr => ∃ (k : Nat), k ≤ pn ∧ i = .int .i64 k ∧ QOk wr W.heap.size v P k ∧ St W wr ([(W.heap.size + 1, #[.slice none 0 0, .slice none 0 0], 30), (W.heap.size, #[.slice ra rn rc, .slice pa pn pc], 30)])) (fun _ i _ => pn - (intOf i).toNat)
  case atStart => exact ⟨0, Nat.zero_le _, rfl, QOk.nil _ _ _, H0.out⟩
  case round =>
    clear H0
    obtain ⟨k, hk0, rfl, hQ, sr⟩ := hrel
    obtain ⟨va, vc, rfl⟩ := hQ.slice
    obtain ⟨c1, f1, zr1, c2, f2, zr2, -⟩ := sr.rules
    by_cases hlt : k < pn
    · obtain ⟨x, l, ca, cc, rfl, hPk, -, hcl, hE, hlr⟩ := (H2.out.below sr.below).at hlt
      obtain ⟨f, q1, q2, q3⟩ := hQ
      have HX : Hid (wr.ownsRow W.heap.size 56 1 (.slice va k vc) k ((List.range k).map f)) := q1
      have HQ2 : Hid (∀ i l, i < k → P[i]? = some l → wr.ownsRow W.heap.size 61 6 (f i) l.length (l.flatMap pcs) ∧ l.length * 48 ≤ 140737488351232) := q2
      have HQ3 : Hid (∀ i j, i < j → j < k → ∀ b b', (f i).ownBlock = some b → (f j).ownBlock = some b' → b < b') := q3
      have hPl := H2.out.1
      obtain ⟨ln, hln⟩ : ∃ ln, l.length = ln := ⟨_, rfl⟩
      rw [hln] at hcl hE hlr
      have HLN : Hid (l.length = ln) := hln
      have HE : Hid (ERow 6 pcs wr ca ln cc l) := hE
      have HPK : Hid (P[k]? = some l) := hPk
      have HPL : Hid (P.length = pn) := hPl
      have Hsr : Hid (St W wr _) := sr
      obtain ⟨i0, hi1, hz0, hz1, hz2⟩ := info_parts (show (Try.prog.info? 56).map (fun i => (i.zero, i.size, i.bytes)) = some (some (.slice none 0 0), 1, 24) by kernel_rfl)
      clear hE hPk q1 q2 q3 hln hPl sr
      go_upto_region 6 with (first
        | (at_builtin; refine wpList_appE (zv := (.agg #[.int .i64 0, .int .i64 0, .int .i64 0, .int .i64 0, .int .i64 0, .int .i64 0])) (T := 61) (S := 56) (by8 := 48) pcs pcs_len pcs_one Try.underlying56 (by kernel_rfl) rfl (by decide) (by decide) rfl (.tmp 14) (.tmp 15) rfl wr.heap.size (.slice (some ⟨wr.heap.size, 0, none⟩) 0 0) l rfl (lit6 wr) ca ln cc rfl (HE.out.below (bal _ _)) hlr (by simp) ?_; intro v1 w5 hO1 hg hnn; obtain ⟨va1, vc1, rfl⟩ := owns_slice hO1; have hb5 := app_below hg; have H5 : Hid (w5.ownsRow wr.heap.size 61 6 (.slice va1 ln vc1) ln (l.flatMap pcs)) := hO1; have HB5 : Hid (Below wr.heap.size wr w5) := hb5; clear hg hnn hO1 hb5 c1 f1 c2 f2 hcl)
        | (at_builtin; refine wpList_append_own _ rfl (.tmp 13) (.tmp 17) 28 rfl W.heap.size 56 i0 (.slice none 0 0) 1 24 Try.underlying28 hi1 hz0 hz1 hz2 rfl (by decide) (.slice va k vc) k ((List.range k).map f) rfl (owns_below HX.out (bt HB5.out (bal _ _))) ⟨w5.heap.size, 0, none⟩ 1 1 [.slice va1 ln vc1] rfl rfl new1 (by simp [Value.oneCell']) (by unfold maxLen; omega) (by omega) (Nat.le_trans Hsr.out.size (bt HB5.out (bal _ _)).size) ?_; intro v2 w9 hown hgr hnn2; have hB9 := bt HB5.out (bal w5 (.cells #[.slice va1 ln vc1] 56)); have hx9 := owns_below HX.out hB9; have hC2 := QOk.add (base := W.heap.size) (B := wr.heap.size) (nv := .slice va1 ln vc1) (l := l) f (fun i l' hi hl' => ⟨owns_below (HQ2.out i l' hi hl').1 hB9, (HQ2.out i l' hi hl').2⟩) HQ3.out (fun i hi b hb => ((HQ2.out i (P[i]'(by rw [HPL.out]; omega)) hi (List.getElem?_eq_getElem (by rw [HPL.out]; omega))).1.lt b hb).2) HPK.out (by rw [HLN.out]; exact owns_below H5.out (bal _ _)) Hsr.out.size (by rw [HLN.out]; exact hlr) (owns_ty hx9) hgr hown; have s10 := (Hsr.out.call hB9).grown hgr (fun b e => (hx9.lt b e).1) (fun y hy => by simp only [List.mem_cons, List.not_mem_nil, or_false] at hy; rcases hy with rfl | rfl; exact own_ne hx9 (Hsr.out.call hB9).h1 (by decide); exact own_ne hx9 (Hsr.out.call hB9).h2 (by decide)); have HC2 : Hid (QOk w9 W.heap.size v2 P (k + 1)) := hC2; have S10 : Hid (St W w9 _) := s10; clear hC2 s10 hx9 hB9 hown hgr hnn2))
      go_wp2
      go_round
      case rel => exact ⟨k + 1, by omega, by go_num, HC2.out, S10.out⟩
      case measure => simp [intOf]; omega
    · obtain rfl : k = pn := by omega
      have HQ : Hid (QOk wr W.heap.size (.slice va k vc) P k) := hQ
      have Hsr : Hid (St W wr ([(W.heap.size + 1, #[.slice none 0 0, .slice none 0 0], 30), (W.heap.size, #[.slice ra rn rc, .slice pa k pc], 30)])) := sr
      have HL : Hid (P.length = k) := H2.out.1
      clear hQ sr
      go_wp2_with (at_builtin; refine wpList_appE (zv := (.agg #[.int .i64 0, .int .i64 0])) (T := 59) (S := 27) (by8 := 16) scs scs_len scs_one Try.underlying27 (by kernel_rfl) rfl (by decide) (by decide) rfl (.tmp 20) (.tmp 22) rfl W.heap.size (.slice (some ⟨wr.heap.size, 0, none⟩) 0 0) R rfl (lit2 wr W.heap.size Hsr.out.size) ra rn rc rfl ((H1.out.below Hsr.out.below).below (bal _ _)) hrn (Nat.le_trans Hsr.out.size (bal _ _).size) ?_; intro v1 w5 hO1 hg hnn; obtain ⟨va1, vc1, rfl⟩ := owns_slice hO1; have hb5 := app_below hg; have H5 : Hid (w5.ownsRow W.heap.size 59 2 (.slice va1 rn vc1) rn (R.flatMap scs)) := hO1; have S5 : Hid (St W w5 ([(W.heap.size + 1, #[.slice none 0 0, .slice none 0 0], 30), (W.heap.size, #[.slice ra rn rc, .slice pa k pc], 30)])) := Hsr.out.call hb5; have HQ5 : Hid (QOk w5 W.heap.size (.slice va k vc) P k) := HQ.out.below hb5; clear hg hnn hO1 hb5 c1 f1 c2 f2; obtain ⟨c1, f1, zs1, c2, f2, zs2, -⟩ := S5.out.rules)
      have hoth : Hid (∀ (g : Nat) (c : Array Value) (t : TypeId), t ≠ 30 → w5.heap[g]? = some (.cells c t (0, 0)) → ((w5.setCell ⟨W.heap.size + 1, 0, none⟩ (.slice va1 rn vc1)).setCell ⟨W.heap.size + 1, 1, none⟩ (.slice va k vc)).heap[g]? = some (.cells c t (0, 0))) := fun g cc t ht hg => by
        have ng : g ≠ W.heap.size + 1 := ne_of_ty hg S5.out.h1 ht
        rw [Below.heap_setCell _ ⟨W.heap.size + 1, 1, none⟩ _ g ng, Below.heap_setCell _ ⟨W.heap.size + 1, 0, none⟩ _ g ng]
        exact hg
      exact bodyPost_ret (v := .agg #[.slice va1 rn vc1, .slice va k vc]) (by simp [results, Try.results8, go_sem, *]) rfl ⟨va1, vc1, va, vc, rfl, owns_other H5.out (fun g c => hoth.out g c _ (by decide)), (HQ5.out.other hoth.out).all HL.out, (S5.out.below.setCell (p := ⟨W.heap.size + 1, 0, none⟩) (Nat.le_succ _) _).setCell (p := ⟨W.heap.size + 1, 1, none⟩) (Nat.le_succ _) _⟩
end Go.Proofs.Ytcjnhchjikcigaa

/- The walk of CertSames. -/
namespace Go.Proofs.Ytcjnhchjikcigaa
open Go.ChangeShapes Go.WideShapes Go.ChangeAt Go.RowKit
set_option linter.unusedVariables false
/-- Spans that came in. -/
theorem spans_of {w : World} {a : Option Addr} {n c : Nat} (h : ORow 2 (fun cs => ∃ (b0 : Int) (b1 : Int), cs = [.int .i64 b0, .int .i64 b1] ∧ (Lit.int .i64 b0).wf = true ∧ (Lit.int .i64 b1).wf = true) w a n c) : ∃ R, ERow 2 scs w a n c R := by
  obtain ⟨h1, h2, h3, h4⟩ := h
  cases a with
  | none =>
    have := h3 rfl
    obtain rfl : n = 0 := by omega
    exact ⟨[], rfl, by omega, h2, h3, fun x hx => by cases hx⟩
  | some x =>
    have q : ∀ i, ∃ p : Int × Int, i < n → ∀ j v, (scs p)[j]? = some v → w.cell? ((x.add (i * 2)).add j) = some v := by
      intro i
      by_cases hi : i < n
      · obtain ⟨cs, -, ⟨b0, b1, rfl, -⟩, g⟩ := h4 x rfl i hi
        refine ⟨(b0, b1), fun _ j v hv => ?_⟩
        have hj : j < 2 := (List.getElem?_eq_some_iff.1 hv).1
        rw [Addr.add_add, g j hj]
        exact hv
      · exact ⟨(0, 0), fun h => absurd h hi⟩
    obtain ⟨f, hf⟩ := Classical.skolem.1 q
    refine ⟨(List.range n).map f, by simp, h1, h2, h3, fun y hy i p hp j v hv => ?_⟩
    cases hy
    have hi : i < n := by have := (List.getElem?_eq_some_iff.1 hp).1; simpa using this
    rw [List.getElem?_map, List.getElem?_range hi, Option.map_some, Option.some.injEq] at hp
    subst hp
    exact hf i hi j v hv
def ChIn (cs : List Value) : Prop := ∃ (b0 : Int) (b1 : Int) (b2 : Int) (b3 : Int) (b4 : Int) (b5 : Int), cs = [.int .i64 b0, .int .i64 b1, .int .i64 b2, .int .i64 b3, .int .i64 b4, .int .i64 b5] ∧ (Lit.int .i64 b0).wf = true ∧ (Lit.int .i64 b1).wf = true ∧ (Lit.int .i64 b2).wf = true ∧ (Lit.int .i64 b3).wf = true ∧ (Lit.int .i64 b4).wf = true ∧ (Lit.int .i64 b5).wf = true
/-- Plans that came in. -/
theorem chans_of {w : World} {a : Option Addr} {n c : Nat} (h : ORow 6 ChIn w a n c) : ∃ l, ERow 6 pcs w a n c l := by
  obtain ⟨h1, h2, h3, h4⟩ := h
  cases a with
  | none =>
    have := h3 rfl
    obtain rfl : n = 0 := by omega
    exact ⟨[], rfl, by omega, h2, h3, fun x hx => by cases hx⟩
  | some x =>
    have q : ∀ i, ∃ p : Pl, i < n → ∀ j v, (pcs p)[j]? = some v → w.cell? ((x.add (i * 6)).add j) = some v := by
      intro i
      by_cases hi : i < n
      · obtain ⟨cs, -, ⟨b0, b1, b2, b3, b4, b5, rfl, -⟩, g⟩ := h4 x rfl i hi
        refine ⟨(b0, b1, b2, b3, b4, b5), fun _ j v hv => ?_⟩
        have hj : j < 6 := (List.getElem?_eq_some_iff.1 hv).1
        rw [Addr.add_add, g j hj]
        exact hv
      · exact ⟨(0, 0, 0, 0, 0, 0), fun h => absurd h hi⟩
    obtain ⟨f, hf⟩ := Classical.skolem.1 q
    refine ⟨(List.range n).map f, by simp, h1, h2, h3, fun y hy i p hp j v hv => ?_⟩
    cases hy
    have hi : i < n := by have := (List.getElem?_eq_some_iff.1 hp).1; simpa using this
    rw [List.getElem?_map, List.getElem?_range hi, Option.map_some, Option.some.injEq] at hp
    subst hp
    exact hf i hi j v hv
def PlIn (w : World) (cs : List Value) : Prop := ∃ (a : Option Addr) (l c : Nat), cs = [.slice a l c] ∧ ORow 6 ChIn w a l c ∧ l * 48 ≤ 140737488351232
theorem plans_of {w : World} {a : Option Addr} {n c : Nat} (h : ORow 1 (PlIn w) w a n c) : ∃ P, QRow w a n c P := by
  obtain ⟨h1, h2, h3, h4⟩ := h
  cases a with
  | none =>
    have := h3 rfl
    obtain rfl : n = 0 := by omega
    exact ⟨[], rfl, by omega, h2, h3, fun x hx => by cases hx⟩
  | some x =>
    have q : ∀ i, ∃ l : List Pl, i < n → ∃ ca cc, w.cell? (x.add i) = some (.slice ca l.length cc) ∧ ERow 6 pcs w ca l.length cc l ∧ l.length * 48 ≤ 140737488351232 := by
      intro i
      by_cases hi : i < n
      · obtain ⟨cs, -, ⟨ca, ln, cc, rfl, g1, g2⟩, g⟩ := h4 x rfl i hi
        obtain ⟨l, hl⟩ := chans_of g1
        have hln := hl.1
        subst hln
        refine ⟨l, fun _ => ⟨ca, cc, ?_, hl, g2⟩⟩
        have := g 0 (by omega)
        rw [Nat.mul_one, Nat.add_zero] at this
        rw [this]
        rfl
      · exact ⟨[], fun h => absurd h hi⟩
    obtain ⟨f, hf⟩ := Classical.skolem.1 q
    refine ⟨(List.range n).map f, by simp, h1, h2, h3, fun y hy i l hl => ?_⟩
    cases hy
    have hi : i < n := by have := (List.getElem?_eq_some_iff.1 hl).1; simpa using this
    rw [List.getElem?_map, List.getElem?_range hi, Option.map_some, Option.some.injEq] at hl
    subst hl
    exact hf i hi
set_option maxHeartbeats 8000000 in
set_option maxRecDepth 100000 in
theorem certSames_w (ra : Option Addr) (rn rc : Nat) (R : List (Int × Int)) (pa : Option Addr) (pn pc : Nat) (P : List (List Pl)) (sa : Option Addr) (sn sc : Nat) (S : List (Int × Int)) (qa : Option Addr) (qn qc : Nat) (Q : List (List Pl)) (W : World) (h1 : ERow 2 scs W ra rn rc R) (h2 : QRow W pa pn pc P) (h3 : ERow 2 scs W sa sn sc S) (h4 : QRow W qa qn qc Q) (hrn : rn * 16 ≤ 140737488351232) (hpn : pn * 24 ≤ 140737488351232) :
    Calls Try.prog 4 #[.agg #[.slice ra rn rc, .slice pa pn pc], .agg #[.slice sa sn sc, .slice qa qn qc]] W fun e w' => e = .returned (.bool true) ∧ Below W.heap.size W w' := by
  obtain ⟨e, he⟩ : ∃ e, ceB R P S Q = e := ⟨_, rfl⟩
  have A1 : Hid (∀ w', Below W.heap.size W w' → _) := fun w' hb => csame_any ra rn rc R pa pn pc P sa sn sc S qa qn qc Q w' (h1.below hb) (h2.below hb) (h3.below hb) (h4.below hb)
  have A2 : Hid (∀ w', Below W.heap.size W w' → _) := fun w' hb => rsame_any ra rn rc R pa pn pc P sa sn sc S qa qn qc Q w' (h1.below hb) (h2.below hb) (h3.below hb) (h4.below hb)
  have A3 : Hid (∀ w', Below W.heap.size W w' → _) := fun w' hb => csame_any sa sn sc S qa qn qc Q ra rn rc R pa pn pc P w' (h3.below hb) (h4.below hb) (h1.below hb) (h2.below hb)
  have A4 : Hid (∀ w', Below W.heap.size W w' → _) := fun w' hb => ccopy_any ra rn rc R pa pn pc P w' (h1.below hb) (h2.below hb) hrn hpn
  have A5 : Hid (∀ w' ta tc ua uc, Below W.heap.size W w' → ERow 2 scs w' ta rn tc R → QRow w' ua pn uc P → _) := fun w' ta tc ua uc hb hE hQ => csame_any ra rn rc R pa pn pc P ta rn tc R ua pn uc P w' (h1.below hb) (h2.below hb) hE hQ
  rw [ceB_sym, he] at A3
  rw [he] at A1 A2
  rw [ceB_t] at A5
  have HRL : Hid (R.length = rn ∧ P.length = pn) := ⟨h1.1, h2.1⟩
  clear h1 h2 h3 h4 he
  have s0 := ((St.start W).new (c := #[.slice ra rn rc, .slice pa pn pc]) (t := 30)).new (c := #[.slice sa sn sc, .slice qa qn qc]) (t := 30)
  simp only [World.size_alloc] at s0
  go_enter Try.func4, Try.ntmps4
  go_upto_region 1 with fail
  have S0 : Hid (St W _ ([(W.heap.size + 1, #[.slice sa sn sc, .slice qa qn qc], 30), (W.heap.size, #[.slice ra rn rc, .slice pa pn pc], 30)])) := s0.drew
  clear s0
  refine regionC (fun w' => St W w' ([(W.heap.size + 1, #[.slice sa sn sc, .slice qa qn qc], 30), (W.heap.size, #[.slice ra rn rc, .slice pa pn pc], 30)])) (by kernel_rfl) ?_
  generalize World.drew _ = w0 at S0 ⊢
  refine zK 0 S0.out (by kernel_rfl) rfl (by kernel_rfl) 11 #[] (by kernel_rfl) (fixed15_any _) ?_
  rintro e' w1 ⟨rfl, hb⟩
  refine ⟨_, rfl, ?_⟩
  have S1 : Hid (St W w1 ([(W.heap.size + 1, #[.slice sa sn sc, .slice qa qn qc], 30), (W.heap.size, #[.slice ra rn rc, .slice pa pn pc], 30)])) := S0.out.call hb
  clear hb S0
  refine takeC 1 (v := .bool true) rfl rfl (by kernel_rfl) (by kernel_rfl) (by kernel_rfl) (fun _ _ _ h => h) (fun _ => by kernel_rfl) (by kernel_rfl) (fun w' hw' => by kernel_rfl) ?_
  refine takeC 2 (v := .agg #[.slice ra rn rc, .slice pa pn pc]) rfl rfl (by kernel_rfl) (by kernel_rfl) (by kernel_rfl) (fun _ _ _ h => h) (fun _ => by kernel_rfl) (by kernel_rfl) (fun w' hw' => run_la 30 (.tmp 2) rfl ⟨W.heap.size, 0, none⟩ (by kernel_rfl) [.slice ra rn rc, .slice pa pn pc] _ (ecells hw'.h2) Try.underlying30 rfl (by kernel_rfl)) ?_
  refine takeC 3 (v := .agg #[.slice sa sn sc, .slice qa qn qc]) rfl rfl (by kernel_rfl) (by kernel_rfl) (by kernel_rfl) (fun _ _ _ h => h) (fun _ => by kernel_rfl) (by kernel_rfl) (fun w' hw' => run_la 30 (.tmp 3) rfl ⟨(W.heap.size + 1), 0, none⟩ (by kernel_rfl) [.slice sa sn sc, .slice qa qn qc] _ (ecells hw'.h1) Try.underlying30 rfl (by kernel_rfl)) ?_
  refine takeC 5 (v := .agg #[.slice ra rn rc, .slice pa pn pc]) rfl rfl (by kernel_rfl) (by kernel_rfl) (by kernel_rfl) (fun _ _ _ h => h) (fun _ => by kernel_rfl) (by kernel_rfl) (fun w' hw' => run_la 30 (.tmp 2) rfl ⟨W.heap.size, 0, none⟩ (by kernel_rfl) [.slice ra rn rc, .slice pa pn pc] _ (ecells hw'.h2) Try.underlying30 rfl (by kernel_rfl)) ?_
  refine takeC 6 (v := .agg #[.slice sa sn sc, .slice qa qn qc]) rfl rfl (by kernel_rfl) (by kernel_rfl) (by kernel_rfl) (fun _ _ _ h => h) (fun _ => by kernel_rfl) (by kernel_rfl) (fun w' hw' => run_la 30 (.tmp 3) rfl ⟨(W.heap.size + 1), 0, none⟩ (by kernel_rfl) [.slice sa sn sc, .slice qa qn qc] _ (ecells hw'.h1) Try.underlying30 rfl (by kernel_rfl)) ?_
  refine zK 4 S1.out (by kernel_rfl) rfl (by kernel_rfl) 16 #[.agg #[.slice ra rn rc, .slice pa pn pc], .agg #[.slice sa sn sc, .slice qa qn qc]] (by kernel_rfl) (A1.out _ S1.out.below) ?_
  rintro e' w2 ⟨rfl, hb⟩
  refine ⟨_, rfl, ?_⟩
  have S2 : Hid (St W w2 ([(W.heap.size + 1, #[.slice sa sn sc, .slice qa qn qc], 30), (W.heap.size, #[.slice ra rn rc, .slice pa pn pc], 30)])) := S1.out.call hb
  clear hb S1
  refine zK 7 S2.out (by kernel_rfl) rfl (by kernel_rfl) 15 #[.agg #[.slice ra rn rc, .slice pa pn pc], .agg #[.slice sa sn sc, .slice qa qn qc]] (by kernel_rfl) (A2.out _ S2.out.below) ?_
  rintro e' w3 ⟨rfl, hb⟩
  refine ⟨_, rfl, ?_⟩
  have S3 : Hid (St W w3 ([(W.heap.size + 1, #[.slice sa sn sc, .slice qa qn qc], 30), (W.heap.size, #[.slice ra rn rc, .slice pa pn pc], 30)])) := S2.out.call hb
  clear hb S2
  refine takeC 8 (v := .bool true) rfl rfl (by kernel_rfl) (by kernel_rfl) (by kernel_rfl) (fun _ _ _ h => h) (fun _ => by kernel_rfl) (by kernel_rfl) (fun w' hw' => by cases e <;> kernel_rfl) ?_
  refine takeC 9 (v := .bool true) rfl rfl (by kernel_rfl) (by kernel_rfl) (by kernel_rfl) (fun _ _ _ h => h) (fun _ => by kernel_rfl) (by kernel_rfl) (fun w' hw' => by kernel_rfl) ?_
  refine takeC 10 (v := .bool true) rfl rfl (by kernel_rfl) (by kernel_rfl) (by kernel_rfl) (fun _ _ _ h => h) (fun _ => by kernel_rfl) (by kernel_rfl) (fun w' hw' => by kernel_rfl) ?_
  refine takeC 11 (v := .agg #[.slice sa sn sc, .slice qa qn qc]) rfl rfl (by kernel_rfl) (by kernel_rfl) (by kernel_rfl) (fun _ _ _ h => h) (fun _ => by kernel_rfl) (by kernel_rfl) (fun w' hw' => run_la 30 (.tmp 3) rfl ⟨(W.heap.size + 1), 0, none⟩ (by kernel_rfl) [.slice sa sn sc, .slice qa qn qc] _ (ecells hw'.h1) Try.underlying30 rfl (by kernel_rfl)) ?_
  refine takeC 12 (v := .agg #[.slice ra rn rc, .slice pa pn pc]) rfl rfl (by kernel_rfl) (by kernel_rfl) (by kernel_rfl) (fun _ _ _ h => h) (fun _ => by kernel_rfl) (by kernel_rfl) (fun w' hw' => run_la 30 (.tmp 2) rfl ⟨W.heap.size, 0, none⟩ (by kernel_rfl) [.slice ra rn rc, .slice pa pn pc] _ (ecells hw'.h2) Try.underlying30 rfl (by kernel_rfl)) ?_
  refine takeC 14 (v := .agg #[.slice ra rn rc, .slice pa pn pc]) rfl rfl (by kernel_rfl) (by kernel_rfl) (by kernel_rfl) (fun _ _ _ h => h) (fun _ => by kernel_rfl) (by kernel_rfl) (fun w' hw' => run_la 30 (.tmp 2) rfl ⟨W.heap.size, 0, none⟩ (by kernel_rfl) [.slice ra rn rc, .slice pa pn pc] _ (ecells hw'.h2) Try.underlying30 rfl (by kernel_rfl)) ?_
  refine takeC 15 (v := .agg #[.slice sa sn sc, .slice qa qn qc]) rfl rfl (by kernel_rfl) (by kernel_rfl) (by kernel_rfl) (fun _ _ _ h => h) (fun _ => by kernel_rfl) (by kernel_rfl) (fun w' hw' => run_la 30 (.tmp 3) rfl ⟨(W.heap.size + 1), 0, none⟩ (by kernel_rfl) [.slice sa sn sc, .slice qa qn qc] _ (ecells hw'.h1) Try.underlying30 rfl (by kernel_rfl)) ?_
  refine zK 13 S3.out (by kernel_rfl) rfl (by kernel_rfl) 16 #[.agg #[.slice sa sn sc, .slice qa qn qc], .agg #[.slice ra rn rc, .slice pa pn pc]] (by kernel_rfl) (A3.out _ S3.out.below) ?_
  rintro e' w4 ⟨rfl, hb⟩
  refine ⟨_, rfl, ?_⟩
  have S4 : Hid (St W w4 ([(W.heap.size + 1, #[.slice sa sn sc, .slice qa qn qc], 30), (W.heap.size, #[.slice ra rn rc, .slice pa pn pc], 30)])) := S3.out.call hb
  clear hb S3
  refine zK 16 S4.out (by kernel_rfl) rfl (by kernel_rfl) 16 #[.agg #[.slice ra rn rc, .slice pa pn pc], .agg #[.slice sa sn sc, .slice qa qn qc]] (by kernel_rfl) (A1.out _ S4.out.below) ?_
  rintro e' w5 ⟨rfl, hb⟩
  refine ⟨_, rfl, ?_⟩
  have S5 : Hid (St W w5 ([(W.heap.size + 1, #[.slice sa sn sc, .slice qa qn qc], 30), (W.heap.size, #[.slice ra rn rc, .slice pa pn pc], 30)])) := S4.out.call hb
  clear hb S4
  refine takeC 17 (v := .bool true) rfl rfl (by kernel_rfl) (by kernel_rfl) (by kernel_rfl) (fun _ _ _ h => h) (fun _ => by kernel_rfl) (by kernel_rfl) (fun w' hw' => by cases e <;> kernel_rfl) ?_
  refine takeC 18 (v := .bool true) rfl rfl (by kernel_rfl) (by kernel_rfl) (by kernel_rfl) (fun _ _ _ h => h) (fun _ => by kernel_rfl) (by kernel_rfl) (fun w' hw' => by kernel_rfl) ?_
  refine takeC 19 (v := .bool true) rfl rfl (by kernel_rfl) (by kernel_rfl) (by kernel_rfl) (fun _ _ _ h => h) (fun _ => by kernel_rfl) (by kernel_rfl) (fun w' hw' => by kernel_rfl) ?_
  refine takeC 20 (v := .agg #[.slice ra rn rc, .slice pa pn pc]) rfl rfl (by kernel_rfl) (by kernel_rfl) (by kernel_rfl) (fun _ _ _ h => h) (fun _ => by kernel_rfl) (by kernel_rfl) (fun w' hw' => run_la 30 (.tmp 2) rfl ⟨W.heap.size, 0, none⟩ (by kernel_rfl) [.slice ra rn rc, .slice pa pn pc] _ (ecells hw'.h2) Try.underlying30 rfl (by kernel_rfl)) ?_
  refine takeC 21 (v := .agg #[.slice ra rn rc, .slice pa pn pc]) rfl rfl (by kernel_rfl) (by kernel_rfl) (by kernel_rfl) (fun _ _ _ h => h) (fun _ => by kernel_rfl) (by kernel_rfl) (fun w' hw' => run_la 30 (.tmp 2) rfl ⟨W.heap.size, 0, none⟩ (by kernel_rfl) [.slice ra rn rc, .slice pa pn pc] _ (ecells hw'.h2) Try.underlying30 rfl (by kernel_rfl)) ?_
  refine zK 22 S5.out (by kernel_rfl) rfl (by kernel_rfl) 8 #[.agg #[.slice ra rn rc, .slice pa pn pc]] (by kernel_rfl) (A4.out _ S5.out.below) ?_
  rintro e' w6 ⟨ta, tc, ua, uc, rfl, hE, hQ, hb⟩
  refine ⟨_, rfl, ?_⟩
  have S6 : Hid (St W w6 ([(W.heap.size + 1, #[.slice sa sn sc, .slice qa qn qc], 30), (W.heap.size, #[.slice ra rn rc, .slice pa pn pc], 30)])) := S5.out.call hb
  have hE2 := owns_erow scs_len hE HRL.out.1
  have hQ2 := hQ.q
  clear hb S5 hE hQ
  refine zK 23 S6.out (by kernel_rfl) rfl (by kernel_rfl) 16 #[.agg #[.slice ra rn rc, .slice pa pn pc], .agg #[.slice ta rn tc, .slice ua pn uc]] (by kernel_rfl) (A5.out _ ta tc ua uc S6.out.below hE2 hQ2) ?_
  rintro e' w7 ⟨rfl, hb⟩
  refine ⟨_, rfl, ?_⟩
  have S7 : Hid (St W w7 ([(W.heap.size + 1, #[.slice sa sn sc, .slice qa qn qc], 30), (W.heap.size, #[.slice ra rn rc, .slice pa pn pc], 30)])) := S6.out.call hb
  clear hb S6
  refine takeC 24 (v := .bool true) rfl rfl (by kernel_rfl) (by kernel_rfl) (by kernel_rfl) (fun _ _ _ h => h) (fun _ => by kernel_rfl) (by kernel_rfl) (fun w' hw' => by kernel_rfl) ?_
  refine takeC 25 (v := .bool true) rfl rfl (by kernel_rfl) (by kernel_rfl) (by kernel_rfl) (fun _ _ _ h => h) (fun _ => by kernel_rfl) (by kernel_rfl) (fun w' hw' => by kernel_rfl) ?_
  refine doneC S7.out (by kernel_rfl) ?_ _
  go_wp2
  refine bodyPost_ret (v := .bool true) (by simp [results, Try.results4, go_sem]) rfl ⟨rfl, S7.out.below⟩
theorem certSames_walk (ra : Option Addr) (rn rc : Nat) (pa : Option Addr) (pn pc : Nat) (sa : Option Addr) (sn sc : Nat) (qa : Option Addr) (qn qc : Nat) (W : World) (h1 : ORow 2 (fun cs => ∃ (b0 : Int) (b1 : Int), cs = [.int .i64 b0, .int .i64 b1] ∧ (Lit.int .i64 b0).wf = true ∧ (Lit.int .i64 b1).wf = true) W ra rn rc) (r1 : rn * 16 ≤ 140737488351232) (h2 : ORow 1 (PlIn W) W pa pn pc) (r2 : pn * 24 ≤ 140737488351232) (h3 : ORow 2 (fun cs => ∃ (b0 : Int) (b1 : Int), cs = [.int .i64 b0, .int .i64 b1] ∧ (Lit.int .i64 b0).wf = true ∧ (Lit.int .i64 b1).wf = true) W sa sn sc) (r3 : sn * 16 ≤ 140737488351232) (h4 : ORow 1 (PlIn W) W qa qn qc) (r4 : qn * 24 ≤ 140737488351232) :
    Calls Try.prog 4 #[.agg #[.slice ra rn rc, .slice pa pn pc], .agg #[.slice sa sn sc, .slice qa qn qc]] W fun e w' => e = .returned (.bool true) ∧ Below W.heap.size W w' := by
  obtain ⟨R, g1⟩ := spans_of h1
  obtain ⟨P, g2⟩ := plans_of h2
  obtain ⟨S, g3⟩ := spans_of h3
  obtain ⟨Q, g4⟩ := plans_of h4
  exact certSames_w ra rn rc R pa pn pc P sa sn sc S qa qn qc Q W g1 g2 g3 g4 r1 r2
end Go.Proofs.Ytcjnhchjikcigaa
