/- What BufMemory's walk leans on: four lists apart, appends that grow, rows of lists. -/
import Derived.Test.YtedbcnkgembhbaaBufG
import Derived.ArgAppend
namespace Go.Proofs.Ytedbcnkgembhbaa
open Go.ChangeShapes Go.WideShapes Go.ChangeAt Go.RowKit
theorem wrap_wf8 (z : Int) : (Lit.int .i8 (IntKind.i8.wrap z)).wf = true := by
  have e : IntKind.i8.wrap z = (z + 128) % 256 - 128 := by
    simp only [IntKind.wrap, IntKind.bits, IntKind.signed]
    simp
    split <;> omega
  exact mk_i8 (by rw [e]; omega)
theorem bits_wf8 (op : BinOp) (x y : Int) : (Lit.int .i8 (bits op .i8 x y)).wf = true := wrap_wf8 _
/-- View, whatever is asked: one error, one length, one list, in whatever world. -/
theorem view_any (zs : List Int) (p q : Int) (hs : zs.length ≤ 1048576) : ∃ (m : Nat) (E : Int) (ys : List Int), m ≤ zs.length ∧ ∀ (B b : Nat) (h u c : Int) (w : World), Bf .i8 31 81 w B b h u c zs →
    Calls Try.prog 22 #[.pointer (some ⟨B, 0, none⟩), .int .i64 p, .int .i64 q] w fun e w' => ∃ a, e = .returned (.tuple #[.slice a m m, .int .i64 E]) ∧ Own .i8 31 w' w.heap.size (.slice a m m) ys ∧ Below w.heap.size w w' := by
  by_cases hi : p < 0 ∨ q < 0 ∨ (zs.length : Int) < p + q
  · refine ⟨0, 3, [], Nat.zero_le _, fun B b h u c w f => (view_no_i8 B b h u c zs p q w f hi).mono ?_⟩
    rintro e w' ⟨rfl, rfl⟩
    exact ⟨none, rfl, own_none _ _ _ _, Below.refl _ _⟩
  · obtain ⟨i, rfl⟩ : ∃ i : Nat, p = (i : Int) := ⟨p.toNat, by omega⟩
    obtain ⟨m, rfl⟩ : ∃ m : Nat, q = (m : Int) := ⟨q.toNat, by omega⟩
    refine ⟨m, 0, (zs.drop i).take m, by omega, fun B b h u c w f => (view_ok_i8 B b h u c zs i m w f (by omega) hs).mono ?_⟩
    rintro e w' ⟨g, rfl, own, b1⟩
    exact ⟨_, rfl, own, b1⟩
/-- Four lists. -/
def Four (w : World) (base : Nat) (va : Nat → Option Addr) (L : Nat → Nat) (F : Nat → List Int) : Prop := ∀ j, j < 4 → Own .i8 31 w base (.slice (va j) (L j) (L j)) (F j)
/-- .. in blocks of their own. -/
def Dis (va : Nat → Option Addr) : Prop := ∀ i j, i < 4 → j < 4 → i ≠ j → ∀ x y, va i = some x → va j = some y → x.block ≠ y.block
def upd {α : Type} (F : Nat → α) (j : Nat) (l : α) : Nat → α := fun i => if i = j then l else F i
theorem upd_same {α : Type} (F : Nat → α) (j : Nat) (l : α) : upd F j l j = l := if_pos rfl
theorem upd_other {α : Type} (F : Nat → α) {i j : Nat} (l : α) (h : i ≠ j) : upd F j l i = F i := if_neg h
theorem Four.below {w w' : World} {base : Nat} {va : Nat → Option Addr} {L : Nat → Nat} {F : Nat → List Int} (h : Four w base va L F) (q : Below w.heap.size w w') : Four w' base va L F := fun j hj => (h j hj).below q
theorem Own.addr {k : IntKind} {T : TypeId} {w : World} {base n cap : Nat} {a : Option Addr} {zs : List Int} (h : Own k T w base (.slice a n cap) zs) (x : Addr) (hx : a = some x) : base ≤ x.block ∧ x.block < w.heap.size := by
  obtain ⟨a', c', e, _, hb⟩ := h.row
  cases e
  exact hb x hx
theorem Own.kept1 {k : IntKind} {T : TypeId} {w w' : World} {base g n cap : Nat} {a : Option Addr} {zs : List Int} (h : Own k T w base (.slice a n cap) zs) (q : w.grownBy w' (some g)) (hne : ∀ x, a = some x → x.block ≠ g) : Own k T w' base (.slice a n cap) zs := by
  refine ⟨h.1.kept q ?_, h.2⟩
  cases a with
  | none => exact .inl rfl
  | some x => exact .inr (by simpa [Value.ownBlock] using hne x rfl)
theorem Four.set {w : World} {base : Nat} {va : Nat → Option Addr} {L : Nat → Nat} {F : Nat → List Int} {j g i : Nat} {z : Int} (h : Four w base va L F) (hd : Dis va) (hj : j < 4) (hg : va j = some ⟨g, 0, none⟩) (hz : (Lit.int .i8 z).wf = true) :
    Four (w.setCell ⟨g, i, none⟩ (.int .i8 z)) base va L (upd F j ((F j).set i z)) := fun l hl => by
  have hjo := h j hj
  rw [hg] at hjo
  have hs := hjo.set (i := i) hz
  by_cases hlj : l = j
  · subst hlj
    rw [upd_same, hg]
    exact hs.1
  · rw [upd_other _ _ hlj]
    exact (h l hl).kept1 hs.2 fun x hx => hd l j hl hj hlj x _ hx hg
theorem Four.addr {w : World} {base : Nat} {va : Nat → Option Addr} {L : Nat → Nat} {F : Nat → List Int} (h : Four w base va L F) {j : Nat} (hj : j < 4) (hl : 0 < L j) : ∃ g, va j = some ⟨g, 0, none⟩ ∧ base ≤ g ∧ g < w.heap.size := by
  have := (h j hj).shape
  rcases this with ⟨h', h0⟩ | ⟨g, cap, h', h1, h2, _⟩
  · simp only [Value.slice.injEq] at h'; omega
  · simp only [Value.slice.injEq] at h'
    exact ⟨g, h'.1, h1, h2⟩
/-- 'append' to a full list: new memory, and nothing old turns. -/
theorem wpList_appG {k : IntKind} {T S : TypeId} {by8 : Nat} (kt : KT k T S by8) {w : World} {ops : Array Oper} {rest : List Oper} {o : Oper} {a : Act} {Q : Exit → Act → World → Prop} (hgd : o.guard = none) (s x : Operand)
    (ho : o.op = .call { callee := .builtin .append, args := #[s, x], argTypes := #[S, S] })
    (base : Nat) (ao : Option Addr) (n : Nat) (xs ys : List Int) (hs : a.eval s = .slice ao n n) (hown : Own k T w base (.slice ao n n) xs) (ad : Addr) (m c : Nat) (hx : a.eval x = .slice (some ad) m c) (hy : IRow k w (some ad) m c ys) (hm : 0 < m) (hlen : n + m ≤ 10000000)
    (h : ∀ v' w', Own k T w' w.heap.size v' (xs ++ ys) → Below w.heap.size w w' → wpList Try.prog ops Q rest (a.put o.dst v') w') : wpList Try.prog ops Q (o :: rest) a w := by
  obtain ⟨hu, hin, b1, b8⟩ := kt
  obtain ⟨i0, hi, hz0, hz1, hz2⟩ := info_parts hin
  obtain ⟨hl, hc, hmm, hb, hn, hcell⟩ := hy
  have hxl := hown.len
  have hby : by8 * (n + m) ≤ 8 * (n + m) := Nat.mul_le_mul_right _ b8
  refine wpList_append_grows _ hgd s x _ ho T i0 (.int k 0) 1 by8 hu hi hz0 hz1 hz2 rfl (by omega) ao n n (xs.map (Value.int k)) hs ?_ (by simp [hxl]) ?_ ad m c (ys.map (Value.int k)) hx (by simp [hl]) ?_ (ints_oneCell _ _) (by omega) (by unfold maxLen; omega) (by rw [Nat.mul_comm]; omega) ?_
  · rintro rfl
    rcases hown.shape with ⟨h', h0⟩ | ⟨g, cap, h', _⟩
    · cases h'; exact ⟨rfl, rfl⟩
    · cases h'
  · rintro b rfl j u hj
    obtain ⟨a', c', e', r, _⟩ := hown.row
    cases e'
    have hj' : j < xs.length := by
      have := (List.getElem?_eq_some_iff.1 hj).1
      simpa using this
    rw [r.2.2.2.2.2 b rfl j hj']
    simp [List.getD, hj'] at hj ⊢
    exact hj
  · intro j u hj
    have hj' : j < m := by
      have := (List.getElem?_eq_some_iff.1 hj).1
      simpa [hl] using this
    rw [hcell ad rfl j hj']
    simp [List.getD, show j < ys.length by omega] at hj ⊢
    exact hj
  · intro v' w' h1 h2
    refine h v' w' ⟨?_, hown.2.app hb⟩ ⟨h2.os, h2.tape, h2.output, h2.size, fun i hi => h2.block i hi (by simp)⟩
    rw [List.length_append, hl, hxl, List.map_append]
    exact h1
/-- A row of lists that the call owns. -/
def OwnS (w : World) (base : Nat) (v : Value) (xs : List Value) : Prop := w.ownsRow base 24 1 v xs.length xs
theorem infoS : (Try.prog.info? 24).map (fun i => (i.zero, i.size, i.bytes)) = some (some (.slice none 0 0), 1, 24) := by kernel_rfl
theorem OwnS.shape {w : World} {base : Nat} {v : Value} {xs : List Value} (h : OwnS w base v xs) : (v = .slice none 0 0 ∧ xs = []) ∨ ∃ g cap, v = .slice (some ⟨g, 0, none⟩) xs.length cap ∧ base ≤ g ∧ g < w.heap.size ∧ xs.length ≤ cap ∧ cap ≤ maxLen ∧ (∃ cs, w.heap[g]? = some (.cells cs 24 (0, 0))) ∧ ∀ i, i < xs.length → w.cell? ⟨g, i, none⟩ = xs[i]? := by
  have h' := h
  rcases h.2 with ⟨rfl, h0⟩ | ⟨g, cap, cur, rfl, hg, hh, hn, hm, hs, ht⟩
  · exact .inl ⟨rfl, List.eq_nil_of_length_eq_zero h0⟩
  · exact .inr ⟨g, cap, rfl, hg, lt_of_heap hh, hn, hm, ⟨cur, hh⟩, fun i hi => World.ownsRow.cellAt h' i (by omega)⟩
theorem OwnS.below {w w' : World} {base : Nat} {v : Value} {xs : List Value} (h : OwnS w base v xs) (q : Below w.heap.size w w') : OwnS w' base v xs := by
  refine World.ownsRow.kept (row := none) h ⟨q.os, q.tape, q.output, q.size, fun i hi _ => q.block i hi⟩ ?_
  rcases h.shape with ⟨rfl, _⟩ | ⟨g, cap, rfl, _⟩
  · exact .inl rfl
  · exact .inr (by simp [Value.ownBlock])
/-- 'append' of one list to a row of lists. -/
theorem wpList_appS {w : World} {ops : Array Oper} {rest : List Oper} {o : Oper} {a : Act} {Q : Exit → Act → World → Prop} (hgd : o.guard = none) (s x : Operand)
    (ho : o.op = .call { callee := .builtin .append, args := #[s, x], argTypes := #[59, 59] })
    (base : Nat) (v : Value) (xs : List Value) (va : Option Addr) (n c : Nat) (hs : a.eval s = v) (hown : OwnS w base v xs) (ad : Addr) (hx : a.eval x = .slice (some ad) 1 1) (hy : w.cell? (ad.add 0) = some (.slice va n c))
    (hlen : xs.length ≤ 1000) (hbase : base ≤ w.heap.size)
    (h : ∀ v' w', OwnS w' base v' (xs ++ [.slice va n c]) → w.grownBy w' v.ownBlock → wpList Try.prog ops Q rest (a.put o.dst v') w') : wpList Try.prog ops Q (o :: rest) a w := by
  obtain ⟨i0, hi, hz0, hz1, hz2⟩ := info_parts infoS
  refine wpList_append_own _ hgd s x _ ho base 24 i0 (.slice none 0 0) 1 24 Try.underlying59 hi hz0 hz1 hz2 rfl (by decide) v xs.length _ hs hown ad 1 1 [.slice va n c] hx rfl ?_ ?_ ?_ (by omega) hbase ?_
  · intro j u hj
    cases j with
    | zero => simp at hj; subst hj; exact hy
    | succ j => simp at hj
  · intro u hu
    simp at hu
    subst hu
    rfl
  · unfold maxLen; omega
  · intro v' w' h1 h2 h3
    refine h v' w' ?_ h2
    unfold OwnS
    rw [List.length_append, List.length_singleton]
    exact h1
def pick4 {α : Type} (a b c d : α) (j : Nat) : α := match j with | 0 => a | 1 => b | 2 => c | _ => d
theorem four_mk {w : World} {base : Nat} {a b c d : Option Addr} {n m : Nat} {xs ys zs us : List Int} (h0 : Own .i8 31 w base (.slice a n n) xs) (h1 : Own .i8 31 w base (.slice b n n) ys) (h2 : Own .i8 31 w base (.slice c m m) zs) (h3 : Own .i8 31 w base (.slice d m m) us) :
    Four w base (pick4 a b c d) (pick4 n n m m) (pick4 xs ys zs us) := fun j hj => by
  match j, hj with
  | 0, _ => exact h0
  | 1, _ => exact h1
  | 2, _ => exact h2
  | 3, _ => exact h3
/-- Lists that were made one behind another lie apart. -/
theorem dis_mk {a b c d : Option Addr} {k0 k1 k2 k3 : Nat} (k01 : k0 ≤ k1) (k12 : k1 ≤ k2) (h0 : ∀ x, a = some x → x.block < k0) (h1 : ∀ x, b = some x → k0 ≤ x.block ∧ x.block < k1) (h2 : ∀ x, c = some x → k1 ≤ x.block ∧ x.block < k2) (h3 : ∀ x, d = some x → k2 ≤ x.block ∧ x.block < k3) : Dis (pick4 a b c d) := by
  intro i j hi hj hij x y hx hy
  match i, hi, j, hj, hij, hx, hy with
  | 0, _, 0, _, h, _, _ => exact absurd rfl h
  | 1, _, 1, _, h, _, _ => exact absurd rfl h
  | 2, _, 2, _, h, _, _ => exact absurd rfl h
  | 3, _, 3, _, h, _, _ => exact absurd rfl h
  | 0, _, 1, _, _, hx, hy => have := h0 x hx; have := h1 y hy; omega
  | 0, _, 2, _, _, hx, hy => have := h0 x hx; have := h2 y hy; omega
  | 0, _, 3, _, _, hx, hy => have := h0 x hx; have := h3 y hy; omega
  | 1, _, 0, _, _, hx, hy => have := h1 x hx; have := h0 y hy; omega
  | 1, _, 2, _, _, hx, hy => have := h1 x hx; have := h2 y hy; omega
  | 1, _, 3, _, _, hx, hy => have := h1 x hx; have := h3 y hy; omega
  | 2, _, 0, _, _, hx, hy => have := h2 x hx; have := h0 y hy; omega
  | 2, _, 1, _, _, hx, hy => have := h2 x hx; have := h1 y hy; omega
  | 2, _, 3, _, _, hx, hy => have := h2 x hx; have := h3 y hy; omega
  | 3, _, 0, _, _, hx, hy => have := h3 x hx; have := h0 y hy; omega
  | 3, _, 1, _, _, hx, hy => have := h3 x hx; have := h1 y hy; omega
  | 3, _, 2, _, _, hx, hy => have := h3 x hx; have := h2 y hy; omega
/-- The row of the four lists. -/
def RowR (w : World) (R : Nat) (va : Nat → Option Addr) (L : Nat → Nat) : Prop := w.heap[R]? = some (.cells #[.slice (va 0) (L 0) (L 0), .slice (va 1) (L 1) (L 1), .slice (va 2) (L 2) (L 2), .slice (va 3) (L 3) (L 3)] 24 (0, 0))
theorem RowR.at {w : World} {R : Nat} {va : Nat → Option Addr} {L : Nat → Nat} (h : RowR w R va L) {j : Nat} (hj : j < 4) : w.cell? ⟨R, j, none⟩ = some (.slice (va j) (L j) (L j)) := by
  rw [(cells_at h).1 j]
  match j, hj with
  | 0, _ => rfl
  | 1, _ => rfl
  | 2, _ => rfl
  | 3, _ => rfl
theorem RowR.kept {L' : List Nat} {w w' : World} {R : Nat} {va : Nat → Option Addr} {L : Nat → Nat} (h : RowR w R va L) (q : Kept L' w w') (hR : R ∉ L') : RowR w' R va L := (q.2.2.2.2 R (lt_of_heap h) hR).trans h
theorem RowR.below {w w' : World} {R : Nat} {va : Nat → Option Addr} {L : Nat → Nat} (h : RowR w R va L) (q : Below w.heap.size w w') : RowR w' R va L := h.kept (L' := []) (Kept.of q) (by simp)
theorem kept_grown {w w' : World} {v : Value} (q : w.grownBy w' v.ownBlock) : Kept v.ownBlock.toList w w' :=
  ⟨q.os, q.tape, q.output, q.size, fun k hk hn => q.block k hk (fun e => hn (by rw [← e]; simp))⟩
theorem Own.kept2 {k : IntKind} {T : TypeId} {L : List Nat} {w w' : World} {base n cap : Nat} {a : Option Addr} {zs : List Int} (h : Own k T w base (.slice a n cap) zs) (q : Kept L w w') (hne : ∀ x, a = some x → x.block ∉ L) : Own k T w' base (.slice a n cap) zs := by
  rcases h.shape with ⟨h', rfl⟩ | ⟨g, cap', h', _⟩
  · cases h'; exact own_none _ _ _ _
  · cases h'
    exact h.keep q (hne _ rfl)
theorem Four.kept {L' : List Nat} {w w' : World} {base : Nat} {va : Nat → Option Addr} {L : Nat → Nat} {F : Nat → List Int} (h : Four w base va L F) (q : Kept L' w w') (hne : ∀ j x, j < 4 → va j = some x → x.block ∉ L') : Four w' base va L F := fun j hj => (h j hj).kept2 q fun x hx => hne j x hj hx
/-- A list that is filled. -/
theorem fill_all {l : List Int} {n : Nat} {z : Int} (hl : l.length = n) (h : ∀ i, i < n → l[i]? = some z) : l = List.replicate n z := by
  apply List.ext_getElem?
  intro i
  rcases Nat.lt_or_ge i n with hi | hi
  · rw [h i hi]; simp [hi]
  · rw [List.getElem?_eq_none (by omega), List.getElem?_eq_none (by simp; omega)]
theorem fill_set {l : List Int} {n k : Nat} {z : Int} (hl : l.length = n) (hk : k < n) (h : ∀ i, i < k → l[i]? = some z) : ∀ i, i < k + 1 → (l.set k z)[i]? = some z := by
  intro i hi
  by_cases e : i = k
  · subst e; rw [List.getElem?_set_self (by omega)]
  · rw [List.getElem?_set_ne (by omega)]; exact h i (by omega)
def lst (L : Nat → Nat) (i : Nat) : List Int := List.replicate (L i) (10 * (i : Int)) ++ List.replicate 40 (10 * (i : Int) + 1)
theorem lst_lo {L : Nat → Nat} {i k : Nat} (h : k < L i) : (lst L i)[k]? = some (10 * (i : Int)) := by
  unfold lst; rw [List.getElem?_append_left (by simpa using h)]; simp [h]
theorem lst_hi {L : Nat → Nat} {i k : Nat} (h : L i ≤ k) (h2 : k < L i + 40) : (lst L i)[k]? = some (10 * (i : Int) + 1) := by
  unfold lst; rw [List.getElem?_append_right (by simpa using h), List.length_replicate, List.getElem?_replicate, if_pos (by omega)]
theorem lst_len (L : Nat → Nat) (i : Nat) : (lst L i).length = L i + 40 := by simp [lst]
theorem Four.congr {w : World} {base : Nat} {va : Nat → Option Addr} {L : Nat → Nat} {F G : Nat → List Int} (h : Four w base va L F) (e : ∀ i, i < 4 → F i = G i) : Four w base va L G := fun j hj => by rw [← e j hj]; exact h j hj
/-- The grown lists. -/
def Gok (w : World) (base : Nat) (L : Nat → Nat) (Gs : List Value) : Prop := ∀ i g, Gs[i]? = some g → ∃ gg cg, g = .slice (some ⟨gg, 0, none⟩) (L i + 40) cg ∧ Own .i8 31 w base g (lst L i)
theorem Gok.below {w w' : World} {base : Nat} {L : Nat → Nat} {Gs : List Value} (h : Gok w base L Gs) (q : Below w.heap.size w w') : Gok w' base L Gs := fun i g hi => by
  obtain ⟨gg, cg, rfl, own⟩ := h i g hi
  exact ⟨gg, cg, rfl, own.below q⟩
theorem gok_nil (w : World) (base : Nat) (L : Nat → Nat) : Gok w base L [] := fun i g hi => by simp at hi
theorem Gok.snoc {w : World} {base : Nat} {L : Nat → Nat} {Gs : List Value} {gg cg j : Nat} (h : Gok w base L Gs) (hj : Gs.length = j) (own : Own .i8 31 w base (.slice (some ⟨gg, 0, none⟩) (L j + 40) cg) (lst L j)) : Gok w base L (Gs ++ [.slice (some ⟨gg, 0, none⟩) (L j + 40) cg]) := fun i g hi => by
  rcases Nat.lt_or_ge i Gs.length with q | q
  · rw [List.getElem?_append_left q] at hi
    exact h i g hi
  · rw [List.getElem?_append_right q] at hi
    have e : i = Gs.length := by
      rcases Nat.lt_or_ge Gs.length i with r | r
      · rw [List.getElem?_eq_none (by simp; omega)] at hi; cases hi
      · omega
    subst e
    rw [Nat.sub_self] at hi
    simp at hi
    subst hi hj
    exact ⟨gg, cg, rfl, own⟩
/-- Through an append to a row of lists. -/
theorem grown_apart {w w' : World} {base s2 R B b : Nat} {va : Nat → Option Addr} {L : Nat → Nat} {F : Nat → List Int} {Gs : List Value} {v : Value} {xs : List Value} {h u c : Int} {z0 : List Int} {w0 : World} {N : Nat}
    (own : OwnS w s2 v xs) (q : w.grownBy w' v.ownBlock) (h4 : Four w base va L F) (hR : RowR w R va L) (hf : Bf .i8 31 81 w B b h u c z0) (hg : Gok w base L Gs) (hb : Below N w0 w) (hRs : R < s2) (hbs : b < s2) (hBs : B < s2) (hN : N ≤ s2) (hNw : N ≤ w.heap.size) :
    Gok w' base L Gs ∧ Four w' base va L F ∧ RowR w' R va L ∧ Bf .i8 31 81 w' B b h u c z0 ∧ Below N w0 w' := by
  have k := kept_grown q
  rcases own.shape with ⟨rfl, -⟩ | ⟨g, cap, rfl, h1, h2, -, -, hc, -⟩
  · have k' : Kept [] w w' := k
    exact ⟨fun i x hx => by obtain ⟨gg, cg, rfl, o⟩ := hg i x hx; exact ⟨gg, cg, rfl, o.kept2 k' (by simp)⟩, h4.kept k' (by simp), hR.kept k' (by simp), hf.kept k' (by simp) (by simp), k'.below hb hNw (by simp)⟩
  · have k' : Kept [g] w w' := k
    refine ⟨fun i x hx => ?_, h4.kept k' fun j x hj hx => ?_, hR.kept k' (by simp; omega), hf.kept k' (by simp; omega) (by simp; omega), k'.below hb hNw (by simp; omega)⟩
    · obtain ⟨gg, cg, rfl, o⟩ := hg i x hx
      exact ⟨gg, cg, rfl, o.keep k' (by simpa using ne_of_type o.cells hc (by decide))⟩
    · have o := h4 j hj
      obtain ⟨a', c', e, -, -⟩ := o.row
      rcases o.shape with ⟨h', _⟩ | ⟨gg, cap', h', _⟩
      · simp only [Value.slice.injEq] at h'
        rw [h'.1] at hx; cases hx
      · simp only [Value.slice.injEq] at h'
        rw [h'.1] at hx
        cases hx
        rw [h'.1] at o
        simpa using ne_of_type o.cells hc (by decide)
end Go.Proofs.Ytedbcnkgembhbaa
