/- Rows of bytes: what is read of them, what a call owns, what stays behind a call; the laws of append, make and copy over them. -/
import Derived.Test.YthlnhodfgmpabaaRows
import Derived.WalkKit
import Derived.ProofKit
import Derived.OpenShut
import Derived.Below
import Derived.Laws.AppendOwnNone
import Derived.Laws.CopyOwn
namespace Go.Proofs.Ythlnhodfgmpabaa.Wr
open Go.ChangeShapes Go.WideShapes Go.ChangeAt Go.RowKit
/-- A byte's range, of all. -/
def Byt (zs : List Int) : Prop := ∀ z ∈ zs, 0 ≤ z ∧ z < 256
theorem Byt.nil : Byt [] := fun _ h => by cases h
theorem Byt.app {a b : List Int} (h : Byt a) (k : Byt b) : Byt (a ++ b) := fun z hz => (List.mem_append.1 hz).elim (h z) (k z)
theorem Byt.take {a : List Int} (h : Byt a) (n : Nat) : Byt (a.take n) := fun z hz => h z (List.mem_of_mem_take hz)
theorem Byt.drop {a : List Int} (h : Byt a) (n : Nat) : Byt (a.drop n) := fun z hz => h z (List.mem_of_mem_drop hz)
theorem Byt.one {z : Int} (h : 0 ≤ z ∧ z < 256) : Byt [z] := fun y hy => by simp at hy; subst hy; exact h
theorem Byt.at {zs : List Int} (h : Byt zs) {i : Nat} (hi : i < zs.length) : 0 ≤ zs[i] ∧ zs[i] < 256 := h _ (List.getElem_mem hi)
/-- What a slice of bytes reads as. -/
def Row (w : World) (a : Option Addr) (len cap : Nat) (zs : List Int) : Prop :=
  zs.length = len ∧ len ≤ cap ∧ cap ≤ maxLen ∧ Byt zs ∧ (a = none → cap = 0) ∧ ∀ x, a = some x → ∀ i, i < len → w.cell? (x.add i) = some (.int .u8 (zs.getD i 0))
theorem Row.mono {w w' : World} {a : Option Addr} {len cap : Nat} {zs : List Int} (h : Row w a len cap zs) (k : ∀ x v, w.cell? x = some (.int .u8 v) → w'.cell? x = some (.int .u8 v)) : Row w' a len cap zs :=
  ⟨h.1, h.2.1, h.2.2.1, h.2.2.2.1, h.2.2.2.2.1, fun x hx i hi => k _ _ (h.2.2.2.2.2 x hx i hi)⟩
theorem Row.below {w w' : World} {a : Option Addr} {len cap : Nat} {zs : List Int} (h : Row w a len cap zs) (k : Below w.heap.size w w') : Row w' a len cap zs :=
  h.mono fun x _ hx => (k.cell (World.block_lt_of_cell? w x hx)).trans hx
theorem Row.grown {w w' : World} {g : Option Nat} {a : Option Addr} {len cap : Nat} {zs : List Int} (h : Row w a len cap zs) (k : w.grownBy w' g) (hg : ∀ x b, a = some x → g = some b → x.block ≠ b) : Row w' a len cap zs :=
  ⟨h.1, h.2.1, h.2.2.1, h.2.2.2.1, h.2.2.2.2.1, fun x hx i hi => k.cell (h.2.2.2.2.2 x hx i hi) (fun e => by
    have hb : (x.add i).block = x.block := by unfold Addr.add; split <;> rfl
    exact hg x _ hx e.symm hb.symm)⟩
/-- What the call made, from block 'base' on, and may write. -/
def Own (w : World) (base : Nat) (v : Value) (zs : List Int) : Prop := w.ownsRow base 5 1 v zs.length (zs.map (Value.int .u8)) ∧ Byt zs
theorem Own.shape {w : World} {base : Nat} {v : Value} {zs : List Int} (h : Own w base v zs) :
    (v = .slice none 0 0 ∧ zs = []) ∨ ∃ g cap, v = .slice (some ⟨g, 0, none⟩) zs.length cap ∧ base ≤ g ∧ g < w.heap.size ∧ zs.length ≤ cap ∧ cap ≤ maxLen ∧ (∃ cur, w.heap[g]? = some (.cells cur 5 (0, 0)) ∧ cur.size = cap) ∧
      (∀ i, i < zs.length → w.cell? ⟨g, i, none⟩ = some (.int .u8 (zs.getD i 0))) ∧ ∀ i, w.frozen? ⟨g, i, none⟩ = false := by
  obtain ⟨⟨h1, h2⟩, hb⟩ := h
  rcases h2 with ⟨rfl, h0⟩ | ⟨g, cap, cur, rfl, hg, hh, hn, hm, hs, ht⟩
  · exact .inl ⟨rfl, List.eq_nil_of_length_eq_zero h0⟩
  · refine .inr ⟨g, cap, rfl, hg, ?_, hn, hm, ⟨cur, hh, by simpa using hs⟩, fun i hi => ?_, fun i => ?_⟩
    · rcases Nat.lt_or_ge g w.heap.size with k | k
      · exact k
      · rw [Array.getElem?_eq_none k] at hh; cases hh
    · have hc : cur[i]? = some (.int .u8 (zs.getD i 0)) := by
        have : (cur.toList.take (zs.length * 1))[i]? = some (.int .u8 (zs.getD i 0)) := by rw [ht]; simp [List.getD, hi]
        rw [List.getElem?_take, if_pos (by omega)] at this
        simpa using this
      simp [World.cell?, hh, hc]
    · simp only [World.frozen?, hh]; simp
theorem Own.row {w : World} {base : Nat} {v : Value} {zs : List Int} (h : Own w base v zs) : ∃ a cap, v = .slice a zs.length cap ∧ Row w a zs.length cap zs ∧ ∀ x, a = some x → base ≤ x.block ∧ x.block < w.heap.size := by
  have hb := h.2
  rcases h.shape with ⟨rfl, rfl⟩ | ⟨g, cap, rfl, hg, hlt, hn, hm, _, hc, _⟩
  · exact ⟨none, 0, rfl, ⟨rfl, by simp, by simp, hb, fun _ => rfl, fun x hx => by cases hx⟩, fun x hx => by cases hx⟩
  · refine ⟨some ⟨g, 0, none⟩, cap, rfl, ⟨rfl, hn, hm, hb, fun h => (by cases h), fun x hx i hi => ?_⟩, fun x hx => ?_⟩
    · cases hx; rw [Addr.add_lit, Nat.zero_add]; exact hc i hi
    · cases hx; exact ⟨hg, hlt⟩
theorem Own.below {w w' : World} {base : Nat} {v : Value} {zs : List Int} (h : Own w base v zs) (k : Below w.heap.size w w') : Own w' base v zs := by
  refine ⟨h.1.kept (row := none) ⟨k.os, k.tape, k.output, k.size, fun i hi _ => k.block i hi⟩ ?_, h.2⟩
  rcases h.shape with ⟨rfl, _⟩ | ⟨g, cap, rfl, _⟩
  · exact .inl rfl
  · exact .inr (by simp [Value.ownBlock])
theorem Own.kept {w w' : World} {base : Nat} {v : Value} {zs : List Int} {row : Option Nat} (h : Own w base v zs) (k : w.grownBy w' row) (hne : ∀ b, row = some b → b < base) : Own w' base v zs := by
  refine ⟨h.1.kept k ?_, h.2⟩
  rcases h.shape with ⟨rfl, _⟩ | ⟨g, cap, rfl, hg, _⟩
  · exact .inl rfl
  · refine .inr fun e => ?_
    have := hne g e.symm; omega
theorem Own.base {w : World} {b c : Nat} {v : Value} {zs : List Int} (h : Own w b v zs) (k : c ≤ b) : Own w c v zs := by
  refine ⟨⟨h.1.1, ?_⟩, h.2⟩
  rcases h.1.2 with h | ⟨g, cap, cur, h1, h2, h3⟩
  · exact .inl h
  · exact .inr ⟨g, cap, cur, h1, Nat.le_trans k h2, h3⟩
theorem own_lit (w : World) (base : Nat) (zs : List Int) (hb : Byt zs) (hm : zs.length ≤ maxLen) (hw : base ≤ w.heap.size) :
    Own (w.alloc (.cells (zs.map (Value.int .u8)).toArray 5)) base (.slice (some ⟨w.heap.size, 0, none⟩) zs.length zs.length) zs := by
  have := World.ownsRow_lit (base := base) (e := 5) (size := 1) w (zs.map (Value.int .u8)).toArray zs.length hw hm (by simp)
  simp only at this
  exact ⟨this, hb⟩
theorem own_none (w : World) (base : Nat) : Own w base (.slice none 0 0) [] := ⟨World.ownsRow_nil _ _ _ _, Byt.nil⟩
theorem Try.infoB : (Try.prog.info? 5).map (fun i => (i.zero, i.size, i.bytes)) = some (some (.int .u8 0), 1, 1) := by kernel_rfl
theorem grow_below {w w' : World} {g : Option Nat} {B : Nat} {w0 : World} (hb : Below B w0 w) (k : w.grownBy w' g) (hB : B ≤ w.heap.size) (hg : ∀ b, g = some b → B ≤ b) : Below B w0 w' := hb.grown k hB hg
/-- 'append' to what the call owns, from whatever slice. -/
theorem wpList_app {w : World} {ops : Array Oper} {rest : List Oper} {o : Oper} {a : Act} {Q : Exit → Act → World → Prop} (hgd : o.guard = none) (s x : Operand)
    (ho : o.op = .call { callee := .builtin .append, args := #[s, x], argTypes := #[27, 27] })
    (base : Nat) (v : Value) (xs ys : List Int) (hs : a.eval s = v) (hown : Own w base v xs) (ao : Option Addr) (m c : Nat) (hx : a.eval x = .slice ao m c) (hy : Row w ao m c ys)
    (hlen : xs.length + ys.length ≤ 140737488355328) (hbase : base ≤ w.heap.size)
    (h : ∀ v' w', Own w' base v' (xs ++ ys) → w.grownBy w' v.ownBlock → (v ≠ .slice none 0 0 → v' ≠ .slice none 0 0) → wpList Try.prog ops Q rest (a.put o.dst v') w') : wpList Try.prog ops Q (o :: rest) a w := by
  obtain ⟨i0, hi, hz0, hz1, hz2⟩ := info_parts Try.infoB
  obtain ⟨hl, hc, hm, hb, hn, hcell⟩ := hy
  cases ao with
  | none =>
    obtain rfl : c = 0 := hn rfl
    obtain rfl : m = 0 := by omega
    obtain rfl : ys = [] := List.eq_nil_of_length_eq_zero hl
    refine wpList_append_own_none hgd s x _ ho base 5 i0 1 Try.underlying27 hi v xs.length _ hs hown.1 hx ?_
    have := h v w (by simpa using hown) ⟨rfl, rfl, rfl, Nat.le_refl _, fun _ _ _ => rfl⟩ (fun h => h)
    exact this
  | some ad =>
    refine wpList_append_own _ hgd s x _ ho base 5 i0 (.int .u8 0) 1 1 Try.underlying27 hi hz0 hz1 hz2 rfl (by decide) v xs.length _ hs hown.1 ad m c (ys.map (Value.int .u8)) hx (by simp [hl]) ?_ (ints_oneCell _ _) ?_ (by omega) hbase ?_
    · intro j u hj
      have hj' : j < m := by
        have := (List.getElem?_eq_some_iff.1 hj).1
        simpa [hl] using this
      rw [hcell ad rfl j hj']
      simp [List.getD, show j < ys.length by omega] at hj ⊢
      exact hj
    · unfold maxLen; omega
    · intro v' w' h1 h2 h3
      refine h v' w' ⟨?_, hown.2.app hb⟩ h2 (fun hv hv' => hv (h3.1 hv').1)
      rw [List.length_append, hl, List.map_append]
      exact h1
/-- A byte laid in a block of its own, ahead of an append. -/
theorem row_one (w : World) (z : Int) (hz : 0 ≤ z ∧ z < 256) : Row (w.alloc (.cells #[.int .u8 z] 5)) (some ⟨w.heap.size, 0, none⟩) 1 1 [z] := by
  refine ⟨rfl, Nat.le_refl _, by unfold maxLen; omega, Byt.one hz, fun h => (by cases h), fun x hx i hi => ?_⟩
  cases hx
  obtain rfl : i = 0 := by omega
  simp [Addr.add]
theorem Own.alloc {w : World} {base : Nat} {v : Value} {zs : List Int} (h : Own w base v zs) (o : Obj) : Own (w.alloc o) base v zs := h.below ((Below.refl _ _).alloc (Nat.le_refl _) _)
/-- 'make' with a length and some room behind it. -/
theorem wpList_mak {w : World} {ops : Array Oper} {rest : List Oper} {o : Oper} {a : Act} {Q : Exit → Act → World → Prop} (hg : o.guard = none) (l c : Operand) (hop : o.op = Op.makeSlice 27 l c)
    (n m : Nat) (L C : Int) (hl : a.eval l = .int .i64 L) (hc : a.eval c = .int .i64 C) (hL : L = (n : Int)) (hC : C = (m : Int)) (hnm : n ≤ m) (hm : m ≤ 281474976710656)
    (hK : (w.alloc (.cells (Array.replicate m (Value.int .u8 0)) 5)).heap[w.heap.size]? = some (.cells (Array.replicate m (Value.int .u8 0)) 5 (0, 0)) → wpList Try.prog ops Q rest (a.put o.dst (.slice (some ⟨w.heap.size, 0, none⟩) n m)) (w.alloc (.cells (Array.replicate m (Value.int .u8 0)) 5))) :
    wpList Try.prog ops Q (o :: rest) a w := by
  obtain ⟨i0, hi, hz0, hz1, hz2⟩ := info_parts Try.infoB
  subst hL; subst hC
  refine wpList_plain hg fun K hK' => ?_
  have hr := run_make (P := Try.prog) w 27 5 i0 (.int .u8 0) Try.underlying27 hi hz0 .i64 .i64 n m (by omega) (by omega) (by rw [hz2]; omega) (by omega)
  have hmc : madeCells (Value.int .u8 0).cells (m * 1) = (Array.replicate m (Value.int .u8 0)) := by
    apply Array.ext
    · rw [size_madeCells]; simp
    · intro i h1 h2
      simp [madeCells, Value.cells, Nat.mod_one]
  simp only [Int.toNat_natCast, hz1, hmc] at hr
  unfold Oper.wp
  simp only [execOp, hop, hl, hc]
  simp [Result.andThen, hr]
  exact hK' _ _ (hK (heap_alloc_new w _))
end Go.Proofs.Ythlnhodfgmpabaa.Wr
