/- Rows of integers of whatever kind: what is read of them, what a call owns, what stays behind a call; make, copy, append over them. -/
import Derived.Test.YtgimnoehagfhhaaNum
import Derived.Test.YtgimnoehagfhhaaHeldQ
import Derived.Test.YtgimnoehagfhhaaOpn
import Derived.Laws.AppendOwnNone
import Derived.Laws.CopyOwn
import Derived.Deep.RegionHeld3
namespace Go.Proofs.Ytgimnoehagfhhaa
open Go.ChangeShapes Go.WideShapes Go.ChangeAt Go.RowKit
theorem dbel (w : World) (n : Nat) : Below w.heap.size w (w.drewN n) := ⟨rfl, rfl, rfl, Nat.le_refl _, fun _ _ => rfl⟩
theorem bal (w : World) (o : Obj) : Below w.heap.size w (w.alloc o) := (Below.refl _ _).alloc (Nat.le_refl _) _
theorem bt {a b c : World} (h : Below a.heap.size a b) (k : Below b.heap.size b c) : Below a.heap.size a c := h.trans (k.mono h.size)
theorem ret_i {k : IntKind} {a b : Int} (h : a = b) : Ending.returned (.int k a) = .returned (.int k b) := by rw [h]
theorem cells_at {w : World} {B : Nat} {c : Array Value} {T : TypeId} (h : w.heap[B]? = some (.cells c T (0, 0))) : (∀ i, w.cell? ⟨B, i, none⟩ = c[i]?) ∧ (∀ i, w.frozen? ⟨B, i, none⟩ = false) ∧ B < w.heap.size :=
  ⟨fun i => by simp [World.cell?, h], fun i => by simp only [World.frozen?, h]; simp, lt_of_heap h⟩
/-- Numbers of a kind. -/
def Wf (k : IntKind) (zs : List Int) : Prop := ∀ z ∈ zs, (Lit.int k z).wf = true
theorem Wf.nil (k : IntKind) : Wf k [] := fun _ h => by cases h
theorem Wf.app {k : IntKind} {a b : List Int} (h : Wf k a) (g : Wf k b) : Wf k (a ++ b) := fun z hz => (List.mem_append.1 hz).elim (h z) (g z)
theorem Wf.one {k : IntKind} {z : Int} (h : (Lit.int k z).wf = true) : Wf k [z] := fun y hy => by simp at hy; subst hy; exact h
theorem Wf.take {k : IntKind} {a : List Int} (h : Wf k a) (n : Nat) : Wf k (a.take n) := fun z hz => h z (List.mem_of_mem_take hz)
theorem Wf.drop {k : IntKind} {a : List Int} (h : Wf k a) (n : Nat) : Wf k (a.drop n) := fun z hz => h z (List.mem_of_mem_drop hz)
theorem Wf.set {k : IntKind} {a : List Int} (h : Wf k a) (n : Nat) {z : Int} (hz : (Lit.int k z).wf = true) : Wf k (a.set n z) := fun y hy => by
  rcases List.mem_or_eq_of_mem_set hy with g | g
  · exact h y g
  · rw [g]; exact hz
theorem wf_i8 {z : Int} (h : (Lit.int .i8 z).wf = true) : -128 ≤ z ∧ z ≤ 127 := by
  simp [Lit.wf, IntKind.min, IntKind.max, IntKind.bits, IntKind.signed] at h
  omega
theorem mk_i8 {z : Int} (h : -128 ≤ z ∧ z ≤ 127) : (Lit.int .i8 z).wf = true := by
  simp [Lit.wf, IntKind.min, IntKind.max, IntKind.bits, IntKind.signed]
  omega
theorem wf_i16 {z : Int} (h : (Lit.int .i16 z).wf = true) : -32768 ≤ z ∧ z ≤ 32767 := by
  simp [Lit.wf, IntKind.min, IntKind.max, IntKind.bits, IntKind.signed] at h
  omega
theorem mk_i16 {z : Int} (h : -32768 ≤ z ∧ z ≤ 32767) : (Lit.int .i16 z).wf = true := by
  simp [Lit.wf, IntKind.min, IntKind.max, IntKind.bits, IntKind.signed]
  omega
theorem wf_i32 {z : Int} (h : (Lit.int .i32 z).wf = true) : -2147483648 ≤ z ∧ z ≤ 2147483647 := by
  simp [Lit.wf, IntKind.min, IntKind.max, IntKind.bits, IntKind.signed] at h
  omega
theorem mk_i32 {z : Int} (h : -2147483648 ≤ z ∧ z ≤ 2147483647) : (Lit.int .i32 z).wf = true := by
  simp [Lit.wf, IntKind.min, IntKind.max, IntKind.bits, IntKind.signed]
  omega
theorem wf_i64 {z : Int} (h : (Lit.int .i64 z).wf = true) : -9223372036854775808 ≤ z ∧ z ≤ 9223372036854775807 := by
  simp [Lit.wf, IntKind.min, IntKind.max, IntKind.bits, IntKind.signed] at h
  omega
theorem mk_i64 {z : Int} (h : -9223372036854775808 ≤ z ∧ z ≤ 9223372036854775807) : (Lit.int .i64 z).wf = true := by
  simp [Lit.wf, IntKind.min, IntKind.max, IntKind.bits, IntKind.signed]
  omega
theorem IRow.mono {k : IntKind} {w w' : World} {a : Option Addr} {len cap : Nat} {zs : List Int} (h : IRow k w a len cap zs) (g : ∀ x v, w.cell? x = some (.int k v) → w'.cell? x = some (.int k v)) : IRow k w' a len cap zs :=
  ⟨h.1, h.2.1, h.2.2.1, h.2.2.2.1, h.2.2.2.2.1, fun x hx i hi => g _ _ (h.2.2.2.2.2 x hx i hi)⟩
theorem IRow.below {k : IntKind} {w w' : World} {a : Option Addr} {len cap : Nat} {zs : List Int} (h : IRow k w a len cap zs) (g : Below w.heap.size w w') : IRow k w' a len cap zs :=
  h.mono fun x _ hx => (g.cell (World.block_lt_of_cell? w x hx)).trans hx
theorem add_block (x : Addr) (i : Nat) : (x.add i).block = x.block := by unfold Addr.add; split <;> rfl
theorem IRow.grown {k : IntKind} {w w' : World} {g : Option Nat} {a : Option Addr} {len cap : Nat} {zs : List Int} (h : IRow k w a len cap zs) (q : w.grownBy w' g) (hg : ∀ x b, a = some x → g = some b → x.block ≠ b) : IRow k w' a len cap zs :=
  ⟨h.1, h.2.1, h.2.2.1, h.2.2.2.1, h.2.2.2.2.1, fun x hx i hi => q.cell (h.2.2.2.2.2 x hx i hi) (fun e => hg x _ hx e.symm (add_block x i).symm)⟩
theorem IRow.at {k : IntKind} {w : World} {a : Option Addr} {len cap : Nat} {zs : List Int} (hr : IRow k w a len cap zs) {i : Nat} (hi : i < len) :
    ∃ x c, a = some x ∧ w.cell? (x.add i) = some (.int k c) ∧ (Lit.int k c).wf = true ∧ zs[i]? = some c ∧ zs.drop i = c :: zs.drop (i + 1) := by
  obtain ⟨hl, hc, hm, hb, hn, hcell⟩ := hr
  have hk' : i < zs.length := by omega
  obtain ⟨x, rfl⟩ : ∃ x, a = some x := by
    cases a with
    | none => have := hn rfl; omega
    | some x => exact ⟨x, rfl⟩
  have hcx := hcell x rfl i hi
  rw [List.getD_eq_getElem?_getD, List.getElem?_eq_getElem hk', Option.getD_some] at hcx
  exact ⟨x, zs[i], rfl, hcx, hb _ (List.getElem_mem hk'), List.getElem?_eq_getElem hk', List.drop_eq_getElem_cons hk'⟩
theorem irow_nil (k : IntKind) (w : World) : IRow k w none 0 0 [] := ⟨rfl, Nat.le_refl _, by unfold maxLen; omega, (fun _ h => by cases h), fun _ => rfl, fun x h => by cases h⟩
theorem IRow.cut {k : IntKind} {w : World} {a a' : Option Addr} {len cap n m : Nat} {zs : List Int} (h : IRow k w a len cap zs) (hn : n + m ≤ len) (ha : ∀ x, a = some x → n < cap → a' = some (x.add n)) (hb : a = none → a' = none) : IRow k w a' m (cap - n) ((zs.drop n).take m) := by
  obtain ⟨h1, h2, h3, h4, h5, h6⟩ := h
  refine ⟨by simp [h1]; omega, by omega, by omega, fun z hz => h4 z (List.mem_of_mem_drop (List.mem_of_mem_take hz)), fun e => ?_, fun x hx i hi => ?_⟩
  · cases a with
    | none => have := h5 rfl; omega
    | some x =>
      rcases Nat.lt_or_ge n cap with q | q
      · rw [ha x rfl q] at e; cases e
      · omega
  · cases a with
    | none => rw [hb rfl] at hx; cases hx
    | some y =>
      rw [ha y rfl (by omega)] at hx
      cases hx
      have := h6 y rfl (n + i) (by omega)
      rw [Addr.add_add, this]
      simp [List.getD, hi]
/-- What the call made, from block 'base' on, and may write. -/
def Own (k : IntKind) (T : TypeId) (w : World) (base : Nat) (v : Value) (zs : List Int) : Prop := w.ownsRow base T 1 v zs.length (zs.map (Value.int k)) ∧ Wf k zs
theorem Own.shape {k : IntKind} {T : TypeId} {w : World} {base : Nat} {v : Value} {zs : List Int} (h : Own k T w base v zs) :
    (v = .slice none 0 0 ∧ zs = []) ∨ ∃ g cap, v = .slice (some ⟨g, 0, none⟩) zs.length cap ∧ base ≤ g ∧ g < w.heap.size ∧ zs.length ≤ cap ∧ cap ≤ maxLen ∧ (∃ cur, w.heap[g]? = some (.cells cur T (0, 0)) ∧ cur.size = cap) ∧
      (∀ i, i < zs.length → w.cell? ⟨g, i, none⟩ = some (.int k (zs.getD i 0))) ∧ ∀ i, w.frozen? ⟨g, i, none⟩ = false := by
  obtain ⟨⟨h1, h2⟩, hb⟩ := h
  rcases h2 with ⟨rfl, h0⟩ | ⟨g, cap, cur, rfl, hg, hh, hn, hm, hs, ht⟩
  · exact .inl ⟨rfl, List.eq_nil_of_length_eq_zero h0⟩
  · refine .inr ⟨g, cap, rfl, hg, lt_of_heap hh, hn, hm, ⟨cur, hh, by simpa using hs⟩, fun i hi => ?_, fun i => ?_⟩
    · have hc : cur[i]? = some (.int k (zs.getD i 0)) := by
        have : (cur.toList.take (zs.length * 1))[i]? = some (.int k (zs.getD i 0)) := by rw [ht]; simp [List.getD, hi]
        rw [List.getElem?_take, if_pos (by omega)] at this
        simpa using this
      simp [World.cell?, hh, hc]
    · simp only [World.frozen?, hh]; simp
theorem Own.row {k : IntKind} {T : TypeId} {w : World} {base : Nat} {v : Value} {zs : List Int} (h : Own k T w base v zs) : ∃ a cap, v = .slice a zs.length cap ∧ IRow k w a zs.length cap zs ∧ ∀ x, a = some x → base ≤ x.block ∧ x.block < w.heap.size := by
  have hb := h.2
  rcases h.shape with ⟨rfl, rfl⟩ | ⟨g, cap, rfl, hg, hlt, hn, hm, _, hc, _⟩
  · exact ⟨none, 0, rfl, irow_nil k w, fun x hx => by cases hx⟩
  · refine ⟨some ⟨g, 0, none⟩, cap, rfl, ⟨rfl, hn, hm, hb, fun h => (by cases h), fun x hx i hi => ?_⟩, fun x hx => ?_⟩
    · cases hx; rw [Addr.add_lit, Nat.zero_add]; exact hc i hi
    · cases hx; exact ⟨hg, hlt⟩
theorem Own.below {k : IntKind} {T : TypeId} {w w' : World} {base : Nat} {v : Value} {zs : List Int} (h : Own k T w base v zs) (q : Below w.heap.size w w') : Own k T w' base v zs := by
  refine ⟨h.1.kept (row := none) ⟨q.os, q.tape, q.output, q.size, fun i hi _ => q.block i hi⟩ ?_, h.2⟩
  rcases h.shape with ⟨rfl, _⟩ | ⟨g, cap, rfl, _⟩
  · exact .inl rfl
  · exact .inr (by simp [Value.ownBlock])
theorem Own.base {k : IntKind} {T : TypeId} {w : World} {b c : Nat} {v : Value} {zs : List Int} (h : Own k T w b v zs) (q : c ≤ b) : Own k T w c v zs := by
  refine ⟨⟨h.1.1, ?_⟩, h.2⟩
  rcases h.1.2 with h | ⟨g, cap, cur, h1, h2, h3⟩
  · exact .inl h
  · exact .inr ⟨g, cap, cur, h1, Nat.le_trans q h2, h3⟩
theorem Own.alloc {k : IntKind} {T : TypeId} {w : World} {base : Nat} {v : Value} {zs : List Int} (h : Own k T w base v zs) (o : Obj) : Own k T (w.alloc o) base v zs := h.below (bal _ _)
theorem own_none (k : IntKind) (T : TypeId) (w : World) (base : Nat) : Own k T w base (.slice none 0 0) [] := ⟨World.ownsRow_nil _ _ _ _, Wf.nil k⟩
theorem own_lit (k : IntKind) (T : TypeId) (w : World) (base : Nat) (zs : List Int) (hb : Wf k zs) (hm : zs.length ≤ maxLen) (hw : base ≤ w.heap.size) :
    Own k T (w.alloc (.cells (zs.map (Value.int k)).toArray T)) base (.slice (some ⟨w.heap.size, 0, none⟩) zs.length zs.length) zs := by
  have := World.ownsRow_lit (base := base) (e := T) (size := 1) w (zs.map (Value.int k)).toArray zs.length hw hm (by simp)
  simp only at this
  exact ⟨this, hb⟩
/-- A block that is known whole. -/
theorem own_full {k : IntKind} {T : TypeId} {w : World} {base g : Nat} {zs : List Int} (h : w.heap[g]? = some (.cells (zs.map (Value.int k)).toArray T (0, 0))) (hb : Wf k zs) (hm : zs.length ≤ maxLen) (hw : base ≤ g) :
    Own k T w base (.slice (some ⟨g, 0, none⟩) zs.length zs.length) zs :=
  ⟨⟨by simp, .inr ⟨g, zs.length, _, rfl, hw, h, Nat.le_refl _, hm, by simp, by rw [Nat.mul_one, List.take_of_length_le (by simp)]⟩⟩, hb⟩
theorem Own.len {k : IntKind} {T : TypeId} {w : World} {base n cap : Nat} {a : Option Addr} {zs : List Int} (h : Own k T w base (.slice a n cap) zs) : zs.length = n := by
  rcases h.shape with ⟨h', rfl⟩ | ⟨g', cap', h', _⟩
  · cases h'; rfl
  · cases h'; rfl
theorem Own.facts {k : IntKind} {T : TypeId} {w : World} {base g n cap : Nat} {zs : List Int} (h : Own k T w base (.slice (some ⟨g, 0, none⟩) n cap) zs) :
    zs.length = n ∧ base ≤ g ∧ g < w.heap.size ∧ n ≤ cap ∧ cap ≤ 9223372036854775807 ∧ IRow k w (some ⟨g, 0, none⟩) n cap zs ∧ ∀ i, w.frozen? ⟨g, i, none⟩ = false := by
  have hrow := h.row
  rcases h.shape with ⟨h', _⟩ | ⟨g', cap', h', hg, hl, hn, hm, _, hc, hf⟩
  · cases h'
  · cases h'
    obtain ⟨a, c, e, r, _⟩ := hrow
    cases e
    unfold maxLen at hm
    exact ⟨rfl, hg, hl, hn, by omega, r, hf⟩
theorem Own.set {k : IntKind} {T : TypeId} {w : World} {base g n cap i : Nat} {zs : List Int} {z : Int} (h : Own k T w base (.slice (some ⟨g, 0, none⟩) n cap) zs) (hz : (Lit.int k z).wf = true) :
    Own k T (w.setCell ⟨g, i, none⟩ (.int k z)) base (.slice (some ⟨g, 0, none⟩) n cap) (zs.set i z) ∧ w.grownBy (w.setCell ⟨g, i, none⟩ (.int k z)) (some g) := by
  obtain rfl := h.len
  have := h.1.stored i (.int k z)
  refine ⟨⟨?_, h.2.set i hz⟩, this.2⟩
  rw [List.length_set, List.map_set]; exact this.1
theorem Own.block {k : IntKind} {T : TypeId} {w : World} {base : Nat} {v : Value} {zs : List Int} (h : Own k T w base v zs) {b : Nat} (hb : v.ownBlock = some b) : base ≤ b := by
  rcases h.shape with ⟨rfl, _⟩ | ⟨g, cap, rfl, hg, _⟩
  · simp [Value.ownBlock] at hb
  · obtain rfl : g = b := by simpa [Value.ownBlock] using hb
    exact hg
theorem Own.bel {k : IntKind} {T : TypeId} {w0 w w' : World} {base B : Nat} {v : Value} {zs : List Int} (h : Own k T w base v zs) (hb : Below B w0 w) (g : w.grownBy w' v.ownBlock) (hB : B ≤ base) (hw : B ≤ w.heap.size) : Below B w0 w' :=
  hb.grown g hw fun _ e => Nat.le_trans hB (h.block e)
/-- A kind, its type, the type of its slices, and its bytes. -/
def KT (k : IntKind) (T S : TypeId) (b : Nat) : Prop := Try.prog.underlying S = some (.slice T) ∧ (Try.prog.info? T).map (fun i => (i.zero, i.size, i.bytes)) = some (some (.int k 0), 1, b) ∧ 1 ≤ b ∧ b ≤ 8
theorem kt_i8 : KT .i8 46 40 1 := ⟨Try.underlying40, by kernel_rfl, by decide, by decide⟩
theorem kt_i16 : KT .i16 22 33 2 := ⟨Try.underlying33, by kernel_rfl, by decide, by decide⟩
theorem kt_i32 : KT .i32 21 34 4 := ⟨Try.underlying34, by kernel_rfl, by decide, by decide⟩
theorem kt_i64 : KT .i64 2 43 8 := ⟨Try.underlying43, by kernel_rfl, by decide, by decide⟩
theorem siz_of {P : Program} {T : TypeId} {z : Option Value} {n q : Nat} (h : (P.info? T).map (fun i => (i.zero, i.size, i.bytes)) = some (z, n, q)) : (P.info? T).map (·.size) = some n := by
  cases hi : P.info? T with
  | none => rw [hi] at h; cases h
  | some i =>
    rw [hi] at h
    simp only [Option.map_some, Option.some.injEq, Prod.mk.injEq] at h
    simp [h.2.1]
/-- 'append' to what the call owns, from whatever slice. -/
theorem wpList_app {k : IntKind} {T S : TypeId} {by8 : Nat} (kt : KT k T S by8) {w : World} {ops : Array Oper} {rest : List Oper} {o : Oper} {a : Act} {Q : Exit → Act → World → Prop} (hgd : o.guard = none) (s x : Operand)
    (ho : o.op = .call { callee := .builtin .append, args := #[s, x], argTypes := #[S, S] })
    (base : Nat) (v : Value) (xs ys : List Int) (hs : a.eval s = v) (hown : Own k T w base v xs) (ao : Option Addr) (m c : Nat) (hx : a.eval x = .slice ao m c) (hy : IRow k w ao m c ys)
    (hlen : xs.length + ys.length ≤ 10000000) (hbase : base ≤ w.heap.size)
    (h : ∀ v' w', Own k T w' base v' (xs ++ ys) → w.grownBy w' v.ownBlock → (v ≠ .slice none 0 0 → v' ≠ .slice none 0 0) → wpList Try.prog ops Q rest (a.put o.dst v') w') : wpList Try.prog ops Q (o :: rest) a w := by
  obtain ⟨hu, hin, b1, b8⟩ := kt
  obtain ⟨i0, hi, hz0, hz1, hz2⟩ := info_parts hin
  obtain ⟨hl, hc, hm, hb, hn, hcell⟩ := hy
  cases ao with
  | none =>
    obtain rfl : c = 0 := hn rfl
    obtain rfl : m = 0 := by omega
    obtain rfl : ys = [] := List.eq_nil_of_length_eq_zero hl
    refine wpList_append_own_none hgd s x _ ho base T i0 1 hu hi v xs.length _ hs hown.1 hx ?_
    have := h v w (by simpa using hown) ⟨rfl, rfl, rfl, Nat.le_refl _, fun _ _ _ => rfl⟩ (fun h => h)
    exact this
  | some ad =>
    have hby : by8 * (xs.length + ys.length) ≤ 8 * (xs.length + ys.length) := Nat.mul_le_mul_right _ b8
    refine wpList_append_own _ hgd s x _ ho base T i0 (.int k 0) 1 by8 hu hi hz0 hz1 hz2 rfl (by omega) v xs.length _ hs hown.1 ad m c (ys.map (Value.int k)) hx (by simp [hl]) ?_ (ints_oneCell _ _) ?_ ?_ hbase ?_
    · intro j u hj
      have hj' : j < m := by
        have := (List.getElem?_eq_some_iff.1 hj).1
        simpa [hl] using this
      rw [hcell ad rfl j hj']
      simp [List.getD, show j < ys.length by omega] at hj ⊢
      exact hj
    · unfold maxLen; omega
    · rw [hl] at hby hlen; rw [Nat.mul_comm]; omega
    · intro v' w' h1 h2 h3
      refine h v' w' ⟨?_, hown.2.app hb⟩ h2 (fun hv hv' => hv (h3.1 hv').1)
      rw [List.length_append, hl, List.map_append]
      exact h1
/-- A number laid in a block of its own, ahead of an append. -/
theorem row_one (k : IntKind) (T : TypeId) (w : World) (z : Int) (hz : (Lit.int k z).wf = true) : IRow k (w.alloc (.cells #[.int k z] T)) (some ⟨w.heap.size, 0, none⟩) 1 1 [z] := by
  refine ⟨rfl, Nat.le_refl _, by unfold maxLen; omega, Wf.one hz, fun h => (by cases h), fun x hx i hi => ?_⟩
  cases hx
  obtain rfl : i = 0 := by omega
  simp [Addr.add]
/-- 'make', of one length. -/
theorem wpList_mak {k : IntKind} {T S : TypeId} {by8 : Nat} (kt : KT k T S by8) {w : World} {ops : Array Oper} {rest : List Oper} {o : Oper} {a : Act} {Q : Exit → Act → World → Prop} (hg : o.guard = none) (l : Operand) (hop : o.op = Op.makeSlice S l l)
    (n : Nat) (L : Int) (hl : a.eval l = .int .i64 L) (hL : L = (n : Int)) (hm : n ≤ 10000000)
    (hK : (w.alloc (.cells (Array.replicate n (Value.int k 0)) T)).heap[w.heap.size]? = some (.cells (Array.replicate n (Value.int k 0)) T (0, 0)) → wpList Try.prog ops Q rest (a.put o.dst (.slice (some ⟨w.heap.size, 0, none⟩) n n)) (w.alloc (.cells (Array.replicate n (Value.int k 0)) T))) :
    wpList Try.prog ops Q (o :: rest) a w := by
  obtain ⟨hu, hin, b1, b8⟩ := kt
  obtain ⟨i0, hi, hz0, hz1, hz2⟩ := info_parts hin
  subst hL
  have hby : by8 * n ≤ 8 * n := Nat.mul_le_mul_right _ b8
  have hby' : (by8 : Int) * (n : Int) ≤ 281474976710656 := by
    have : ((by8 * n : Nat) : Int) ≤ 281474976710656 := by omega
    rwa [Int.natCast_mul] at this
  refine wpList_plain hg fun K hK' => ?_
  have hr := run_make (P := Try.prog) w S T i0 (.int k 0) hu hi hz0 .i64 .i64 n n (by omega) (by omega) (by rw [hz2]; exact hby') (by omega)
  have hmc : madeCells (Value.int k 0).cells (n * 1) = Array.replicate n (Value.int k 0) := by
    apply Array.ext
    · rw [size_madeCells]; simp
    · intro i h1 h2
      simp [madeCells, Value.cells, Nat.mod_one]
  simp only [Int.toNat_natCast, hz1, hmc] at hr
  unfold Oper.wp
  simp only [execOp, hop, hl]
  simp [Result.andThen, hr]
  exact hK' _ _ (hK (heap_alloc_new w _))
/-- .. as an equation, for a region that draws its order. -/
theorem run_mak {k : IntKind} {T S : TypeId} {by8 : Nat} (kt : KT k T S by8) (n : Nat) (hn : n ≤ 10000000) : ∀ w : World, (Instr.makeSlice S (.int .i64 (n : Int)) (.int .i64 (n : Int))).run Try.prog w = .ok (.slice (some ⟨w.heap.size, 0, none⟩) n n) (w.alloc (.cells (Array.replicate n (Value.int k 0)) T)) := by
  intro w
  obtain ⟨hu, hin, b1, b8⟩ := kt
  obtain ⟨i0, hi, hz0, hz1, hz2⟩ := info_parts hin
  have hby : by8 * n ≤ 8 * n := Nat.mul_le_mul_right _ b8
  have hby' : (by8 : Int) * (n : Int) ≤ 281474976710656 := by
    have : ((by8 * n : Nat) : Int) ≤ 281474976710656 := by omega
    rwa [Int.natCast_mul] at this
  have hr := run_make (P := Try.prog) w S T i0 (.int k 0) hu hi hz0 .i64 .i64 n n (by omega) (by omega) (by rw [hz2]; exact hby') (by omega)
  have hmc : madeCells (Value.int k 0).cells (n * 1) = Array.replicate n (Value.int k 0) := by
    apply Array.ext
    · rw [size_madeCells]; simp
    · intro i h1 h2
      simp [madeCells, Value.cells, Nat.mod_one]
  simp only [Int.toNat_natCast, hz1, hmc] at hr
  exact hr
theorem rep_cells (k : IntKind) (n : Nat) : Array.replicate n (Value.int k 0) = ((List.replicate n (0 : Int)).map (Value.int k)).toArray := by simp
theorem splice_all {α : Type} (L cs : List α) (h : cs.length = L.length) : splice L 0 cs = cs := by
  unfold splice
  rw [Nat.zero_add, List.drop_of_length_le (by omega)]
  simp
end Go.Proofs.Ytgimnoehagfhhaa
