/- Rows of bytes: what is read of them, what a call owns, what stays behind a call; the laws of append, make and copy over them. The form of a number in groups of seven bits, and the way back: plain, of lists of integers. Bits of bytes and of 64-bit numbers, as sums and rests. There and back: the form of a number is taken again; what is taken is a form; a form cut short is too short. Plain. The front of what is left: both the program's and the document's. Rows of bytes made: joined, roomy, the copies; the comparison byte by byte. Numbers put into bytes: the program's calls and the document's. The document's form, numbers with a sign, copies, and a reader made. -/
import Derived.Test.YthagdpiocmcbmaaRows
import Derived.WalkKit
import Derived.ProofKit
import Derived.OpenShut
import Derived.Below
import Derived.Laws.AppendOwnNone
import Derived.Laws.CopyOwn
import Derived.Laws.BitsAllLaws
import Derived.BigQuiet
import Derived.Deep.DeepCutAuto
import Derived.Lib.SliceRun
/- Rows of bytes: what is read of them, what a call owns, what stays behind a call; the laws of append, make and copy over them. -/
namespace Go.Proofs.Ythagdpiocmcbmaa.Wr
open Go.ChangeShapes Go.WideShapes Go.ChangeAt Go.RowKit
/-- A byte's range, of all. -/
def Byt (zs : List Int) : Prop := ∀ z ∈ zs, 0 ≤ z ∧ z < 256
theorem Byt.nil : Byt [] := fun _ h => by cases h
theorem Byt.app {a b : List Int} (h : Byt a) (k : Byt b) : Byt (a ++ b) := fun z hz => (List.mem_append.1 hz).elim (h z) (k z)
theorem Byt.take {a : List Int} (h : Byt a) (n : Nat) : Byt (a.take n) := fun z hz => h z (List.mem_of_mem_take hz)
theorem Byt.drop {a : List Int} (h : Byt a) (n : Nat) : Byt (a.drop n) := fun z hz => h z (List.mem_of_mem_drop hz)
theorem Byt.one {z : Int} (h : 0 ≤ z ∧ z < 256) : Byt [z] := fun y hy => by simp at hy; subst hy; exact h
theorem Byt.at {zs : List Int} (h : Byt zs) {i : Nat} (hi : i < zs.length) : 0 ≤ zs[i] ∧ zs[i] < 256 := h _ (List.getElem_mem hi)
/-- What a slice of bytes reads as. -/
def Row (w : World) (a : Option Addr) (len cap : Nat) (zs : List Int) : Prop :=
  zs.length = len ∧ len ≤ cap ∧ cap ≤ maxLen ∧ Byt zs ∧ (a = none → cap = 0) ∧ ∀ x, a = some x → ∀ i, i < len → w.cell? (x.add i) = some (.int .u8 (zs.getD i 0))
theorem Row.mono {w w' : World} {a : Option Addr} {len cap : Nat} {zs : List Int} (h : Row w a len cap zs) (k : ∀ x v, w.cell? x = some (.int .u8 v) → w'.cell? x = some (.int .u8 v)) : Row w' a len cap zs :=
  ⟨h.1, h.2.1, h.2.2.1, h.2.2.2.1, h.2.2.2.2.1, fun x hx i hi => k _ _ (h.2.2.2.2.2 x hx i hi)⟩
theorem Row.below {w w' : World} {a : Option Addr} {len cap : Nat} {zs : List Int} (h : Row w a len cap zs) (k : Below w.heap.size w w') : Row w' a len cap zs :=
  h.mono fun x _ hx => (k.cell (World.block_lt_of_cell? w x hx)).trans hx
theorem Row.grown {w w' : World} {g : Option Nat} {a : Option Addr} {len cap : Nat} {zs : List Int} (h : Row w a len cap zs) (k : w.grownBy w' g) (hg : ∀ x b, a = some x → g = some b → x.block ≠ b) : Row w' a len cap zs :=
  ⟨h.1, h.2.1, h.2.2.1, h.2.2.2.1, h.2.2.2.2.1, fun x hx i hi => k.cell (h.2.2.2.2.2 x hx i hi) (fun e => by
    have hb : (x.add i).block = x.block := by unfold Addr.add; split <;> rfl
    exact hg x _ hx e.symm hb.symm)⟩
/-- What the call made, from block 'base' on, and may write. -/
def Own (w : World) (base : Nat) (v : Value) (zs : List Int) : Prop := w.ownsRow base 5 1 v zs.length (zs.map (Value.int .u8)) ∧ Byt zs
theorem Own.shape {w : World} {base : Nat} {v : Value} {zs : List Int} (h : Own w base v zs) :
    (v = .slice none 0 0 ∧ zs = []) ∨ ∃ g cap, v = .slice (some ⟨g, 0, none⟩) zs.length cap ∧ base ≤ g ∧ g < w.heap.size ∧ zs.length ≤ cap ∧ cap ≤ maxLen ∧ (∃ cur, w.heap[g]? = some (.cells cur 5 (0, 0)) ∧ cur.size = cap) ∧
      (∀ i, i < zs.length → w.cell? ⟨g, i, none⟩ = some (.int .u8 (zs.getD i 0))) ∧ ∀ i, w.frozen? ⟨g, i, none⟩ = false := by
  obtain ⟨⟨h1, h2⟩, hb⟩ := h
  rcases h2 with ⟨rfl, h0⟩ | ⟨g, cap, cur, rfl, hg, hh, hn, hm, hs, ht⟩
  · exact .inl ⟨rfl, List.eq_nil_of_length_eq_zero h0⟩
  · refine .inr ⟨g, cap, rfl, hg, ?_, hn, hm, ⟨cur, hh, by simpa using hs⟩, fun i hi => ?_, fun i => ?_⟩
    · rcases Nat.lt_or_ge g w.heap.size with k | k
      · exact k
      · rw [Array.getElem?_eq_none k] at hh; cases hh
    · have hc : cur[i]? = some (.int .u8 (zs.getD i 0)) := by
        have : (cur.toList.take (zs.length * 1))[i]? = some (.int .u8 (zs.getD i 0)) := by rw [ht]; simp [List.getD, hi]
        rw [List.getElem?_take, if_pos (by omega)] at this
        simpa using this
      simp [World.cell?, hh, hc]
    · simp only [World.frozen?, hh]; simp
theorem Own.row {w : World} {base : Nat} {v : Value} {zs : List Int} (h : Own w base v zs) : ∃ a cap, v = .slice a zs.length cap ∧ Row w a zs.length cap zs ∧ ∀ x, a = some x → base ≤ x.block ∧ x.block < w.heap.size := by
  have hb := h.2
  rcases h.shape with ⟨rfl, rfl⟩ | ⟨g, cap, rfl, hg, hlt, hn, hm, _, hc, _⟩
  · exact ⟨none, 0, rfl, ⟨rfl, by simp, by simp, hb, fun _ => rfl, fun x hx => by cases hx⟩, fun x hx => by cases hx⟩
  · refine ⟨some ⟨g, 0, none⟩, cap, rfl, ⟨rfl, hn, hm, hb, fun h => (by cases h), fun x hx i hi => ?_⟩, fun x hx => ?_⟩
    · cases hx; rw [Addr.add_lit, Nat.zero_add]; exact hc i hi
    · cases hx; exact ⟨hg, hlt⟩
theorem Own.below {w w' : World} {base : Nat} {v : Value} {zs : List Int} (h : Own w base v zs) (k : Below w.heap.size w w') : Own w' base v zs := by
  refine ⟨h.1.kept (row := none) ⟨k.os, k.tape, k.output, k.size, fun i hi _ => k.block i hi⟩ ?_, h.2⟩
  rcases h.shape with ⟨rfl, _⟩ | ⟨g, cap, rfl, _⟩
  · exact .inl rfl
  · exact .inr (by simp [Value.ownBlock])
theorem Own.kept {w w' : World} {base : Nat} {v : Value} {zs : List Int} {row : Option Nat} (h : Own w base v zs) (k : w.grownBy w' row) (hne : ∀ b, row = some b → b < base) : Own w' base v zs := by
  refine ⟨h.1.kept k ?_, h.2⟩
  rcases h.shape with ⟨rfl, _⟩ | ⟨g, cap, rfl, hg, _⟩
  · exact .inl rfl
  · refine .inr fun e => ?_
    have := hne g e.symm; omega
theorem Own.base {w : World} {b c : Nat} {v : Value} {zs : List Int} (h : Own w b v zs) (k : c ≤ b) : Own w c v zs := by
  refine ⟨⟨h.1.1, ?_⟩, h.2⟩
  rcases h.1.2 with h | ⟨g, cap, cur, h1, h2, h3⟩
  · exact .inl h
  · exact .inr ⟨g, cap, cur, h1, Nat.le_trans k h2, h3⟩
theorem own_lit (w : World) (base : Nat) (zs : List Int) (hb : Byt zs) (hm : zs.length ≤ maxLen) (hw : base ≤ w.heap.size) :
    Own (w.alloc (.cells (zs.map (Value.int .u8)).toArray 5)) base (.slice (some ⟨w.heap.size, 0, none⟩) zs.length zs.length) zs := by
  have := World.ownsRow_lit (base := base) (e := 5) (size := 1) w (zs.map (Value.int .u8)).toArray zs.length hw hm (by simp)
  simp only at this
  exact ⟨this, hb⟩
theorem own_none (w : World) (base : Nat) : Own w base (.slice none 0 0) [] := ⟨World.ownsRow_nil _ _ _ _, Byt.nil⟩
theorem Try.infoB : (Try.prog.info? 5).map (fun i => (i.zero, i.size, i.bytes)) = some (some (.int .u8 0), 1, 1) := by kernel_rfl
theorem grow_below {w w' : World} {g : Option Nat} {B : Nat} {w0 : World} (hb : Below B w0 w) (k : w.grownBy w' g) (hB : B ≤ w.heap.size) (hg : ∀ b, g = some b → B ≤ b) : Below B w0 w' := hb.grown k hB hg
/-- 'append' to what the call owns, from whatever slice. -/
theorem wpList_app {w : World} {ops : Array Oper} {rest : List Oper} {o : Oper} {a : Act} {Q : Exit → Act → World → Prop} (hgd : o.guard = none) (s x : Operand)
    (ho : o.op = .call { callee := .builtin .append, args := #[s, x], argTypes := #[28, 28] })
    (base : Nat) (v : Value) (xs ys : List Int) (hs : a.eval s = v) (hown : Own w base v xs) (ao : Option Addr) (m c : Nat) (hx : a.eval x = .slice ao m c) (hy : Row w ao m c ys)
    (hlen : xs.length + ys.length ≤ 140737488355328) (hbase : base ≤ w.heap.size)
    (h : ∀ v' w', Own w' base v' (xs ++ ys) → w.grownBy w' v.ownBlock → (v ≠ .slice none 0 0 → v' ≠ .slice none 0 0) → wpList Try.prog ops Q rest (a.put o.dst v') w') : wpList Try.prog ops Q (o :: rest) a w := by
  obtain ⟨i0, hi, hz0, hz1, hz2⟩ := info_parts Try.infoB
  obtain ⟨hl, hc, hm, hb, hn, hcell⟩ := hy
  cases ao with
  | none =>
    obtain rfl : c = 0 := hn rfl
    obtain rfl : m = 0 := by omega
    obtain rfl : ys = [] := List.eq_nil_of_length_eq_zero hl
    refine wpList_append_own_none hgd s x _ ho base 5 i0 1 Try.underlying28 hi v xs.length _ hs hown.1 hx ?_
    have := h v w (by simpa using hown) ⟨rfl, rfl, rfl, Nat.le_refl _, fun _ _ _ => rfl⟩ (fun h => h)
    exact this
  | some ad =>
    refine wpList_append_own _ hgd s x _ ho base 5 i0 (.int .u8 0) 1 1 Try.underlying28 hi hz0 hz1 hz2 rfl (by decide) v xs.length _ hs hown.1 ad m c (ys.map (Value.int .u8)) hx (by simp [hl]) ?_ (ints_oneCell _ _) ?_ (by omega) hbase ?_
    · intro j u hj
      have hj' : j < m := by
        have := (List.getElem?_eq_some_iff.1 hj).1
        simpa [hl] using this
      rw [hcell ad rfl j hj']
      simp [List.getD, show j < ys.length by omega] at hj ⊢
      exact hj
    · unfold maxLen; omega
    · intro v' w' h1 h2 h3
      refine h v' w' ⟨?_, hown.2.app hb⟩ h2 (fun hv hv' => hv (h3.1 hv').1)
      rw [List.length_append, hl, List.map_append]
      exact h1
/-- A byte laid in a block of its own, ahead of an append. -/
theorem row_one (w : World) (z : Int) (hz : 0 ≤ z ∧ z < 256) : Row (w.alloc (.cells #[.int .u8 z] 5)) (some ⟨w.heap.size, 0, none⟩) 1 1 [z] := by
  refine ⟨rfl, Nat.le_refl _, by unfold maxLen; omega, Byt.one hz, fun h => (by cases h), fun x hx i hi => ?_⟩
  cases hx
  obtain rfl : i = 0 := by omega
  simp [Addr.add]
theorem Own.alloc {w : World} {base : Nat} {v : Value} {zs : List Int} (h : Own w base v zs) (o : Obj) : Own (w.alloc o) base v zs := h.below ((Below.refl _ _).alloc (Nat.le_refl _) _)
/-- 'make' with a length and some room behind it. -/
theorem wpList_mak {w : World} {ops : Array Oper} {rest : List Oper} {o : Oper} {a : Act} {Q : Exit → Act → World → Prop} (hg : o.guard = none) (l c : Operand) (hop : o.op = Op.makeSlice 28 l c)
    (n m : Nat) (L C : Int) (hl : a.eval l = .int .i64 L) (hc : a.eval c = .int .i64 C) (hL : L = (n : Int)) (hC : C = (m : Int)) (hnm : n ≤ m) (hm : m ≤ 281474976710656)
    (hK : (w.alloc (.cells (Array.replicate m (Value.int .u8 0)) 5)).heap[w.heap.size]? = some (.cells (Array.replicate m (Value.int .u8 0)) 5 (0, 0)) → wpList Try.prog ops Q rest (a.put o.dst (.slice (some ⟨w.heap.size, 0, none⟩) n m)) (w.alloc (.cells (Array.replicate m (Value.int .u8 0)) 5))) :
    wpList Try.prog ops Q (o :: rest) a w := by
  obtain ⟨i0, hi, hz0, hz1, hz2⟩ := info_parts Try.infoB
  subst hL; subst hC
  refine wpList_plain hg fun K hK' => ?_
  have hr := run_make (P := Try.prog) w 28 5 i0 (.int .u8 0) Try.underlying28 hi hz0 .i64 .i64 n m (by omega) (by omega) (by rw [hz2]; omega) (by omega)
  have hmc : madeCells (Value.int .u8 0).cells (m * 1) = (Array.replicate m (Value.int .u8 0)) := by
    apply Array.ext
    · rw [size_madeCells]; simp
    · intro i h1 h2
      simp [madeCells, Value.cells, Nat.mod_one]
  simp only [Int.toNat_natCast, hz1, hmc] at hr
  unfold Oper.wp
  simp only [execOp, hop, hl, hc]
  simp [Result.andThen, hr]
  exact hK' _ _ (hK (heap_alloc_new w _))
end Go.Proofs.Ythagdpiocmcbmaa.Wr

/- The form of a number in groups of seven bits, and the way back: plain, of lists of integers. -/
namespace Go.Proofs.Ythagdpiocmcbmaa.Wr
/-- A number's form. -/
def putR (x : Nat) : List Int := if x < 128 then [(x : Int)] else ((x % 128 + 128 : Nat) : Int) :: putR (x / 128)
theorem putR_lt {x : Nat} (h : x < 128) : putR x = [(x : Int)] := by rw [putR, if_pos h]
theorem putR_ge {x : Nat} (h : ¬ x < 128) : putR x = ((x % 128 + 128 : Nat) : Int) :: putR (x / 128) := by rw [putR, if_neg h]
theorem putR_pos (x : Nat) : 0 < (putR x).length := by
  by_cases h : x < 128
  · rw [putR_lt h]; simp
  · rw [putR_ge h]; simp
theorem putR_le : ∀ (k x : Nat), x < 128 ^ (k + 1) → (putR x).length ≤ k + 1
  | 0, x, h => by rw [putR_lt (by simpa using h)]; simp
  | k + 1, x, h => by
    by_cases hx : x < 128
    · rw [putR_lt hx]; simp
    · rw [putR_ge hx, List.length_cons]
      have := putR_le k (x / 128) (by rw [Nat.div_lt_iff_lt_mul (by omega)]; rw [Nat.pow_succ] at h; exact h)
      omega
theorem putR_ten {x : Nat} (h : x < 18446744073709551616) : (putR x).length ≤ 10 := putR_le 9 x (by
  have : (128 : Nat) ^ (9 + 1) = 1180591620717411303424 := by decide
  omega)
theorem putR_byt (x : Nat) : Byt (putR x) := by
  induction x using Nat.strongRecOn with
  | ind x ih =>
    by_cases h : x < 128
    · rw [putR_lt h]; exact Byt.one ⟨by omega, by omega⟩
    · rw [putR_ge h]
      intro z hz
      rcases List.mem_cons.1 hz with rfl | hz
      · exact ⟨by omega, by omega⟩
      · exact ih (x / 128) (by omega) z hz
/-- The number in front, from group 'i' on, 'acc' being the groups ahead: the number, how many bytes, the error. -/
def gR : Nat → Int → List Int → Int × Nat × Int
  | _, _, [] => (0, 0, 40)
  | i, acc, c :: r => if (0 < i ∧ c = 0) ∨ (i = 9 ∧ 1 < c) then (0, 0, 41) else if c < 128 then (acc + c * 2 ^ (7 * i), i + 1, 0) else gR (i + 1) (acc + (c - 128) * 2 ^ (7 * i)) r
def getR (zs : List Int) : Int × Nat × Int := gR 0 0 zs
theorem p7 (i : Nat) : (2 : Int) ^ (7 * (i + 1)) = 2 ^ (7 * i) * 128 := by rw [Nat.mul_add, Int.pow_add]; rfl
theorem p7_pos (i : Nat) : (0 : Int) < 2 ^ (7 * i) := Int.pow_pos (by omega)
theorem gR_at (i : Nat) (acc : Int) (zs : List Int) (k : Nat) (hk : k < zs.length) : gR i acc (zs.drop k) = gR i acc (zs[k] :: zs.drop (k + 1)) := by rw [List.drop_eq_getElem_cons hk]
/-- What is told of an answer. -/
theorem gR_out : ∀ (zs : List Int) (i : Nat) (acc : Int), Byt zs → i ≤ 9 → 0 ≤ acc → acc < 2 ^ (7 * i) →
    ((gR i acc zs).2.2 = 0 ∧ 0 ≤ (gR i acc zs).1 ∧ (gR i acc zs).1 < 18446744073709551616 ∧ i < (gR i acc zs).2.1 ∧ (gR i acc zs).2.1 ≤ i + zs.length) ∨ (gR i acc zs = (0, 0, 40)) ∨ (gR i acc zs = (0, 0, 41))
  | [], i, acc, _, _, _, _ => .inr (.inl rfl)
  | c :: r, i, acc, hb, hi, h0, h1 => by
    have hc := hb c List.mem_cons_self
    have hp := p7_pos i
    unfold gR
    by_cases h : (0 < i ∧ c = 0) ∨ (i = 9 ∧ 1 < c)
    · rw [if_pos h]; exact .inr (.inr rfl)
    · rw [if_neg h]
      by_cases h2 : c < 128
      · rw [if_pos h2]
        refine .inl ⟨rfl, ?_, ?_, by simp, by simp⟩
        · have := Int.mul_nonneg hc.1 (Int.le_of_lt hp); show 0 ≤ acc + c * 2 ^ (7 * i); omega
        · show acc + c * 2 ^ (7 * i) < _
          by_cases h9 : i = 9
          · subst h9
            have : c ≤ 1 := by omega
            have e : (2 : Int) ^ (7 * 9) = 9223372036854775808 := by decide
            rw [e] at h1 ⊢; omega
          · have hle : (2 : Int) ^ (7 * i) ≤ 2 ^ (7 * 8) := by
              have : i = 0 ∨ i = 1 ∨ i = 2 ∨ i = 3 ∨ i = 4 ∨ i = 5 ∨ i = 6 ∨ i = 7 ∨ i = 8 := by omega
              rcases this with h | h | h | h | h | h | h | h | h <;> subst h <;> decide
            have e : (2 : Int) ^ (7 * 8) = 72057594037927936 := by decide
            have hm : c * 2 ^ (7 * i) ≤ 127 * 2 ^ (7 * i) := Int.mul_le_mul_of_nonneg_right (by omega) (Int.le_of_lt hp)
            omega
      · rw [if_neg h2]
        have h9 : i ≠ 9 := fun e => h (.inr ⟨e, by omega⟩)
        have hm : (c - 128) * 2 ^ (7 * i) ≤ 127 * 2 ^ (7 * i) := Int.mul_le_mul_of_nonneg_right (by omega) (Int.le_of_lt hp)
        have hm0 : 0 ≤ (c - 128) * 2 ^ (7 * i) := Int.mul_nonneg (by omega) (Int.le_of_lt hp)
        have := gR_out r (i + 1) (acc + (c - 128) * 2 ^ (7 * i)) (fun z hz => hb z (List.mem_cons_of_mem _ hz)) (by omega) (by omega) (by rw [p7]; omega)
        rcases this with ⟨a, b, c', d, e⟩ | h | h
        · exact .inl ⟨a, b, c', by omega, by rw [List.length_cons]; omega⟩
        · exact .inr (.inl h)
        · exact .inr (.inr h)
end Go.Proofs.Ythagdpiocmcbmaa.Wr

/- Bits of bytes and of 64-bit numbers, as sums and rests. -/
namespace Go.Proofs.Ythagdpiocmcbmaa.Wr
theorem or64 (acc d : Int) (k : Nat) (h0 : 0 ≤ acc) (h1 : acc < 2 ^ (7 * k)) (hd : 0 ≤ d) (hb : d * 2 ^ (7 * k) < 18446744073709551616) (ha : acc < 18446744073709551616) :
    bits .or .u64 acc (IntKind.u64.wrap (d * 2 ^ (7 * k))) = acc + d * 2 ^ (7 * k) := by
  obtain ⟨a, rfl⟩ := Int.eq_ofNat_of_zero_le h0
  obtain ⟨e, rfl⟩ := Int.eq_ofNat_of_zero_le hd
  have hp : ((e : Int) * 2 ^ (7 * k)) = ((e * 2 ^ (7 * k) : Nat) : Int) := by rw [Int.natCast_mul, Int.natCast_pow]; rfl
  have hq : (2 : Int) ^ (7 * k) = ((2 ^ (7 * k) : Nat) : Int) := by rw [Int.natCast_pow]; rfl
  rw [hp] at hb ⊢
  rw [hq] at h1
  rw [IntKind.wrap_u64, Int.emod_eq_of_lt (by omega) hb, u64_or_nat a (e * 2 ^ (7 * k)) (by omega) (by omega)]
  rw [Nat.or_comm, nat_join (7 * k) (e * 2 ^ (7 * k)) a (Nat.mul_mod_left _ _) (by omega)]
  omega
theorem and8 (c : Int) (h0 : 0 ≤ c) (h1 : c < 256) : bits .and .u8 c 127 = c % 128 := by
  rw [u8_and c 127 h0 h1 (by omega) (by omega)]
  have : c.toNat &&& (127 : Int).toNat = c.toNat % 128 := Nat.and_two_pow_sub_one_eq_mod c.toNat 7
  rw [this]; omega
theorem and64 (c : Int) (h0 : 0 ≤ c) (h1 : c < 18446744073709551616) : bits .and .u64 c 127 = c % 128 := by
  rw [u64_and c 127 h0 h1 (by omega) (by omega)]
  have : c.toNat &&& (127 : Int).toNat = c.toNat % 128 := Nat.and_two_pow_sub_one_eq_mod c.toNat 7
  rw [this]; omega
theorem and1 (c : Int) (h0 : 0 ≤ c) (h1 : c < 18446744073709551616) : bits .and .u64 c 1 = c % 2 := by
  rw [u64_and c 1 h0 h1 (by omega) (by omega)]
  have : c.toNat &&& (1 : Int).toNat = c.toNat % 2 := Nat.and_two_pow_sub_one_eq_mod c.toNat 1
  rw [this]; omega
theorem or8 (d : Int) (h0 : 0 ≤ d) (h1 : d < 128) : bits .or .u8 d 128 = d + 128 := by
  rw [u8_or d 128 h0 (by omega) (by omega) (by omega)]
  have : d.toNat ||| (128 : Int).toNat = 128 + d.toNat := by
    rw [Nat.or_comm]; exact nat_join 7 128 d.toNat (by decide) (by omega)
  rw [this]; omega
/-- A group's place below the tenth. -/
theorem grp (i : Nat) (c : Int) (hi : i ≤ 8) (h0 : 0 ≤ c) (h1 : c < 128) : 0 ≤ c * 2 ^ (7 * i) ∧ c * 2 ^ (7 * i) ≤ 127 * 2 ^ (7 * i) ∧ (2 : Int) ^ (7 * i) ≤ 72057594037927936 := by
  have hp := p7_pos i
  have hle : (2 : Int) ^ (7 * i) ≤ 72057594037927936 := by
    have : i = 0 ∨ i = 1 ∨ i = 2 ∨ i = 3 ∨ i = 4 ∨ i = 5 ∨ i = 6 ∨ i = 7 ∨ i = 8 := by omega
    rcases this with h | h | h | h | h | h | h | h | h <;> subst h <;> decide
  have hm : c * 2 ^ (7 * i) ≤ 127 * 2 ^ (7 * i) := Int.mul_le_mul_of_nonneg_right (by omega) (Int.le_of_lt hp)
  exact ⟨Int.mul_nonneg h0 (Int.le_of_lt hp), by omega, hle⟩
/-- A round that goes on. -/
theorem go_on {k : Nat} {acc c : Int} (hk : k ≤ 8) (h0 : 0 ≤ acc) (h1 : acc < 2 ^ (7 * k)) (hc : 128 ≤ c) (hc2 : c < 256) :
    bits .or .u64 acc (IntKind.u64.wrap (c % 128 * 2 ^ (7 * k))) = acc + (c - 128) * 2 ^ (7 * k) ∧ 0 ≤ acc + (c - 128) * 2 ^ (7 * k) ∧ acc + (c - 128) * 2 ^ (7 * k) < 2 ^ (7 * (k + 1)) := by
  obtain ⟨g1, g2, g3⟩ := grp k (c - 128) hk (by omega) (by omega)
  have e : c % 128 = c - 128 := by omega
  rw [e]
  exact ⟨or64 _ _ _ h0 h1 (by omega) (by omega) (by omega), by omega, by rw [p7]; omega⟩
/-- A round that ends with a number. -/
theorem go_off {k : Nat} {acc c : Int} (hk : k ≤ 9) (h0 : 0 ≤ acc) (h1 : acc < 2 ^ (7 * k)) (hc : 0 ≤ c) (hc2 : c < 128) (h9 : ¬ (k = 9 ∧ 1 < c)) :
    bits .or .u64 acc (IntKind.u64.wrap (c % 128 * 2 ^ (7 * k))) = acc + c * 2 ^ (7 * k) := by
  have e : c % 128 = c := by omega
  rw [e]
  by_cases h : k = 9
  · subst h
    have p : (2 : Int) ^ (7 * 9) = 9223372036854775808 := by decide
    refine or64 _ _ _ h0 h1 hc ?_ ?_ <;> rw [p] at * <;> omega
  · obtain ⟨g1, g2, g3⟩ := grp k c (by omega) (by omega) (by omega)
    exact or64 _ _ _ h0 h1 hc (by omega) (by omega)
theorem gR_form {i : Nat} {acc c : Int} {r : List Int} (h : (0 < i ∧ c = 0) ∨ (i = 9 ∧ 1 < c)) : gR i acc (c :: r) = (0, 0, 41) := by rw [gR, if_pos h]
theorem gR_last {i : Nat} {acc c : Int} {r : List Int} (h : ¬ ((0 < i ∧ c = 0) ∨ (i = 9 ∧ 1 < c))) (h2 : c < 128) : gR i acc (c :: r) = (acc + c * 2 ^ (7 * i), i + 1, 0) := by rw [gR, if_neg h, if_pos h2]
theorem gR_next {i : Nat} {acc c : Int} {r : List Int} (h : ¬ ((0 < i ∧ c = 0) ∨ (i = 9 ∧ 1 < c))) (h2 : ¬ c < 128) : gR i acc (c :: r) = gR (i + 1) (acc + (c - 128) * 2 ^ (7 * i)) r := by rw [gR, if_neg h, if_neg h2]
theorem go_zero {k : Nat} {acc c : Int} (hk : k ≤ 9) (h0 : 0 ≤ acc) (h1 : acc < 2 ^ (7 * k)) (hc : c = 0) : bits .or .u64 acc (IntKind.u64.wrap 0) = acc + c * 2 ^ (7 * k) := by
  have := go_off (c := 0) hk h0 h1 (by omega) (by omega) (by omega)
  subst hc
  simpa using this
theorem go_nine {k : Nat} {acc c : Int} (hk : k = 9) (h0 : 0 ≤ acc) (h1 : acc < 2 ^ (7 * k)) (hc : 0 ≤ c) (hc2 : c ≤ 1) : bits .or .u64 acc (c % 128 * 9223372036854775808) = acc + c * 2 ^ (7 * k) := by
  have := go_off (c := c) (by omega) h0 h1 hc (by omega) (by omega)
  subst hk
  have p : (2 : Int) ^ (7 * 9) = 9223372036854775808 := by decide
  rw [p, IntKind.wrap_u64, Int.emod_eq_of_lt (by omega) (by omega)] at this
  rw [p]; exact this
theorem ret3 {x x' y z : Int} {n : Nat} {g : Int × Nat × Int} (h : (x', n, z) = g) (hx : x = x') (hy : y = n) : Ending.returned (.tuple #[.int .u64 x, .int .i64 y, .int .i64 z]) = .returned (.tuple #[.int .u64 g.1, .int .i64 g.2.1, .int .i64 g.2.2]) := by
  subst h; subst hx; subst hy; rfl
end Go.Proofs.Ythagdpiocmcbmaa.Wr

/- There and back: the form of a number is taken again; what is taken is a form; a form cut short is too short. Plain. -/
namespace Go.Proofs.Ythagdpiocmcbmaa.Wr
theorem div7 (x i : Nat) (hi : i + 1 ≤ 9) (h : x < 18446744073709551616 / 128 ^ i) : x / 128 < 18446744073709551616 / 128 ^ (i + 1) := by
  rw [Nat.pow_succ, ← Nat.div_div_eq_div_mul]
  have : i = 0 ∨ i = 1 ∨ i = 2 ∨ i = 3 ∨ i = 4 ∨ i = 5 ∨ i = 6 ∨ i = 7 ∨ i = 8 := by omega
  rcases this with h' | h' | h' | h' | h' | h' | h' | h' | h' <;> subst h' <;> simp at h ⊢ <;> omega
theorem pow_128 (i : Nat) : (2 : Int) ^ (7 * i) = ((128 ^ i : Nat) : Int) := by
  rw [Int.natCast_pow, Int.pow_mul]; rfl
theorem comb (acc x m q P : Int) (h : x = m + 128 * q) : acc + m * P + q * (P * 128) = acc + x * P := by
  subst h
  rw [Int.add_mul, Int.add_assoc, Int.mul_comm P 128, ← Int.mul_assoc, Int.mul_comm q 128]
/-- The form of x, from group i on, ahead of whatever: x comes back. -/
theorem gR_put : ∀ (n x i : Nat) (acc : Int) (r : List Int), (putR x).length = n → i + n ≤ 10 → (i = 0 ∨ 0 < x) → (i + n = 10 → x / 128 ^ (n - 1) ≤ 1) →
    gR i acc (putR x ++ r) = (acc + x * 2 ^ (7 * i), i + n, 0)
  | 0, x, i, acc, r, hn, _, _, _ => by have := putR_pos x; omega
  | n + 1, x, i, acc, r, hn, hi, hx, ht => by
    by_cases h : x < 128
    · rw [putR_lt h] at hn ⊢
      simp at hn
      subst hn
      rw [List.singleton_append, gR_last ?_ (by omega)]
      intro hc
      rcases hc with ⟨h1, h2⟩ | ⟨h1, h2⟩
      · omega
      · have := ht (by omega); simp at this; omega
    · rw [putR_ge h] at hn ⊢
      simp only [List.length_cons, Nat.add_right_cancel_iff] at hn
      have hpos := putR_pos (x / 128)
      rw [List.cons_append, gR_next ?_ (by omega), gR_put n (x / 128) (i + 1) _ r hn (by omega) (.inr (by omega)) ?_]
      · congr 1
        · rw [p7, show ((x % 128 + 128 : Nat) : Int) - 128 = ((x % 128 : Nat) : Int) by omega]
          exact comb acc x _ _ _ (by omega)
        · congr 1; omega
      · intro he
        have := ht (by omega)
        obtain ⟨k, rfl⟩ : ∃ k, n = k + 1 := ⟨n - 1, by omega⟩
        rw [Nat.div_div_eq_div_mul]
        simp only [Nat.add_sub_cancel] at this ⊢
        rw [Nat.pow_succ, Nat.mul_comm] at this
        exact this
      · intro hc
        rcases hc with ⟨_, h2⟩ | ⟨h1, _⟩ <;> omega
/-- Ten groups: the last is at most 1. -/
theorem putR_top {x : Nat} (hx : x < 18446744073709551616) : x / 128 ^ (10 - 1) ≤ 1 := by
  have : (128 : Nat) ^ (10 - 1) = 9223372036854775808 := by decide
  omega
theorem get_put {x : Nat} (hx : x < 18446744073709551616) (r : List Int) : getR (putR x ++ r) = ((x : Int), (putR x).length, 0) := by
  have h := gR_put (putR x).length x 0 0 r rfl (by have := putR_ten hx; omega) (.inl rfl) (fun h => by
    have h' : (putR x).length = 10 := by omega
    rw [h']; exact putR_top hx)
  unfold getR
  rw [h]
  simp
theorem putR_front : ∀ (n x : Nat), (putR x).length = n + 1 → ∀ c ∈ (putR x).take n, 128 ≤ c
  | 0, _, _, c, hc => by simp at hc
  | n + 1, x, hn, c, hc => by
    by_cases h : x < 128
    · rw [putR_lt h] at hn; simp at hn
    · rw [putR_ge h] at hn hc
      simp only [List.length_cons, Nat.add_right_cancel_iff] at hn
      rw [List.take_succ_cons] at hc
      rcases List.mem_cons.1 hc with rfl | hc
      · omega
      · exact putR_front n (x / 128) hn c hc
theorem gR_short : ∀ (zs : List Int) (i : Nat) (acc : Int), (∀ c ∈ zs, 128 ≤ c) → i + zs.length ≤ 9 → gR i acc zs = (0, 0, 40)
  | [], _, _, _, _ => rfl
  | c :: r, i, acc, h, hl => by
    have hc := h c List.mem_cons_self
    rw [List.length_cons] at hl
    rw [gR_next (by omega) (by omega)]
    exact gR_short r (i + 1) _ (fun d hd => h d (List.mem_cons_of_mem _ hd)) (by omega)
theorem get_short {x n : Nat} (hx : x < 18446744073709551616) (hn : (putR x).length = n + 1) : getR ((putR x).take n) = (0, 0, 40) :=
  gR_short _ 0 0 (putR_front n x hn) (by have := putR_ten hx; simp; omega)
/-- What is taken is the form of what is answered. -/
theorem gR_form_of : ∀ (zs : List Int) (i : Nat) (acc : Int), Byt zs → i ≤ 9 → (gR i acc zs).2.2 = 0 → ∃ x : Nat, (gR i acc zs).1 = acc + x * 2 ^ (7 * i) ∧ zs.take ((gR i acc zs).2.1 - i) = putR x ∧ i < (gR i acc zs).2.1 ∧ (0 < i → 0 < x)
  | [], i, acc, _, _, h => by simp [gR] at h
  | c :: r, i, acc, hb, hi, h => by
    have hc := hb c List.mem_cons_self
    by_cases h1 : (0 < i ∧ c = 0) ∨ (i = 9 ∧ 1 < c)
    · rw [gR_form h1] at h; simp at h
    · by_cases h2 : c < 128
      · rw [gR_last h1 h2]
        obtain ⟨x, rfl⟩ := Int.eq_ofNat_of_zero_le hc.1
        refine ⟨x, rfl, ?_, by simp, by omega⟩
        simp only [Nat.add_sub_cancel_left, List.take_succ_cons, List.take_zero]
        rw [putR_lt (by omega)]
      · rw [gR_next h1 h2] at h ⊢
        have h9 : i ≠ 9 := fun e => h1 (.inr ⟨e, by omega⟩)
        obtain ⟨y, e1, e2, e3, e4⟩ := gR_form_of r (i + 1) (acc + (c - 128) * 2 ^ (7 * i)) (fun z hz => hb z (List.mem_cons_of_mem _ hz)) (by omega) h
        have hy := e4 (by omega)
        generalize gR (i + 1) (acc + (c - 128) * 2 ^ (7 * i)) r = G at *
        obtain ⟨m, hm⟩ : ∃ m : Nat, c - 128 = m := ⟨(c - 128).toNat, by omega⟩
        refine ⟨m + 128 * y, ?_, ?_, by omega, by omega⟩
        · rw [e1, hm, p7]
          exact comb acc _ _ _ _ (by omega)
        · obtain ⟨k, hk⟩ : ∃ k, G.2.1 - i = k + 1 := ⟨G.2.1 - i - 1, by omega⟩
          rw [hk, List.take_succ_cons, putR_ge (by omega)]
          have ek : k = G.2.1 - (i + 1) := by omega
          rw [ek, e2]
          congr 1
          · omega
          · congr 1; omega
theorem get_form {zs : List Int} (hb : Byt zs) (h : (getR zs).2.2 = 0) : ∃ x : Nat, (getR zs).1 = x ∧ zs.take (getR zs).2.1 = putR x ∧ 0 < (getR zs).2.1 ∧ x < 18446744073709551616 := by
  obtain ⟨x, h1, h2, h3, _⟩ := gR_form_of zs 0 0 hb (by omega) h
  refine ⟨x, by unfold getR; rw [h1]; simp, h2, h3, ?_⟩
  rcases gR_out zs 0 0 hb (by omega) (by omega) (by simp) with ⟨_, _, k, _, _⟩ | k | k
  · rw [h1] at k; simp at k; omega
  · unfold getR at h; rw [k] at h; simp at h
  · unfold getR at h; rw [k] at h; simp at h
end Go.Proofs.Ythagdpiocmcbmaa.Wr

/- The front of what is left: both the program's and the document's. -/
namespace Go.Proofs.Ythagdpiocmcbmaa.Wr
open Go.ChangeShapes Go.WideShapes Go.ChangeAt Go.RowKit
theorem row_at {w : World} {a : Option Addr} {len cap : Nat} {zs : List Int} (hr : Row w a len cap zs) {k : Nat} (hk : k < len) :
    ∃ x c, a = some x ∧ w.cell? (x.add k) = some (.int .u8 c) ∧ 0 ≤ c ∧ c < 256 ∧ zs.drop k = c :: zs.drop (k + 1) := by
  obtain ⟨hl, hc, hm, hb, hn, hcell⟩ := hr
  have hk' : k < zs.length := by omega
  obtain ⟨x, rfl⟩ : ∃ x, a = some x := by
    cases a with
    | none => have := hn rfl; omega
    | some x => exact ⟨x, rfl⟩
  have hcx := hcell x rfl k hk
  rw [List.getD_eq_getElem?_getD, List.getElem?_eq_getElem hk', Option.getD_some] at hcx
  exact ⟨x, zs[k], rfl, hcx, (hb.at hk').1, (hb.at hk').2, List.drop_eq_getElem_cons hk'⟩
/-- What a reader holds. -/
def Rd (w : World) (B : Nat) (T : TypeId) (zs : List Int) (f : Int) : Prop := ∃ a len cap, w.heap[B]? = some (.cells #[.slice a len cap, .int .i64 f] T (0, 0)) ∧ Row w a len cap zs ∧ ∀ x, a = some x → x.block < B
theorem cells_at {w : World} {B : Nat} {c : Array Value} {T : TypeId} (h : w.heap[B]? = some (.cells c T (0, 0))) : (∀ i, w.cell? ⟨B, i, none⟩ = c[i]?) ∧ (∀ i, w.frozen? ⟨B, i, none⟩ = false) ∧ B < w.heap.size := by
  refine ⟨fun i => by simp [World.cell?, h], fun i => by simp only [World.frozen?, h]; simp, ?_⟩
  rcases Nat.lt_or_ge B w.heap.size with k | k
  · exact k
  · rw [Array.getElem?_eq_none k] at h; cases h
def frR (zs : List Int) (f : Int) : Int × Nat × Int := if f = 0 then getR zs else (0, 0, f)
set_option maxHeartbeats 2000000 in
theorem front_is (B : Nat) (zs : List Int) (f : Int) (w : World) (h : Rd w B 102 zs f) :
    Calls Try.prog 87 #[.pointer (some ⟨B, 0, none⟩)] w fun e w' => e = .returned (.tuple #[.int .u64 (frR zs f).1, .int .i64 (frR zs f).2.1, .int .i64 (frR zs f).2.2]) ∧ ∃ n, w' = w.drewN n := by
  obtain ⟨a, len, cap, hB, hr, -⟩ := h
  obtain ⟨cB, fB, zB⟩ := cells_at hB
  clear hB
  have hr' := hr
  obtain ⟨hl, hc, hm, hb, hn, hcell⟩ := hr'
  clear hcell hb
  unfold maxLen at hm
  have hl' : Hid (zs.length = len) := hl
  clear hl
  by_cases hf : f = 0
  · subst hf
    have R0 : Hid (frR zs 0 = getR zs) := rfl
    go_enter Try.func87, Try.ntmps87
    go_wp2
    by_cases hm10 : len ≤ 10
    all_goals
      go_quiet (fail)
      go_wp2
      go_loop [2, 28] (fun x i => ∃ (k : Nat) (acc : Int), k ≤ len ∧ k ≤ 9 ∧ i = .int .i64 k ∧ x = .int .u64 acc ∧ 0 ≤ acc ∧ acc < 2 ^ (7 * k) ∧ gR k acc (zs.drop k) = getR zs) (fun _ i => 10 - (intOf i).toNat)
      case atStart => exact ⟨0, 0, Nat.zero_le _, by omega, rfl, rfl, by omega, by simp, rfl⟩
      case round =>
        obtain ⟨k, acc, hk, hk9, rfl, rfl, h0, h1, hg⟩ := hrel
        have h1' : Hid (acc < 2 ^ (7 * k)) := h1
        clear h1
        by_cases hlt : k < len
        · obtain ⟨x, c, rfl, hcx, hc0, hc1, hd⟩ := row_at hr hlt
          have hg' : Hid (gR k acc (c :: zs.drop (k + 1)) = getR zs) := by rw [← hd]; exact hg
          clear hg hd hr
          by_cases hA : (0 < k ∧ c = 0) ∨ (k = 9 ∧ 1 < c)
          · have R := (gR_form (i := k) (acc := acc) (c := c) (r := zs.drop (k + 1)) hA).symm.trans hg'.out
            have R' : Hid ((0, 0, 41) = frR zs 0) := R.trans R0.out.symm
            clear hg' R
            rcases hA with ⟨hA3, rfl⟩ | ⟨hA3, hA4⟩
            · go_wp2
              go_ret3
              exact ⟨ret3 R'.out rfl rfl, _, rfl⟩
            · have hcz : (c == 0) = false := by simp; omega
              have hk0 : 0 < k := by omega
              have hk9i : (k : Int) = 9 := by omega
              have hcx9 : w.cell? ⟨x.block, x.off + 9, none⟩ = some (.int .u8 c) := by
                have h := hcx
                rw [show k = 9 by omega] at h
                exact h
              clear hA3
              go_wp2
              all_goals first
                | (exfalso
                   have hx : (c == 0) = false ∧ c ≤ 1 := by assumption
                   omega)
                | (go_ret3
                   exact ⟨ret3 R'.out rfl rfl, _, rfl⟩)
          · by_cases h128 : c < 128
            · have R := (gR_last (i := k) (acc := acc) (c := c) (r := zs.drop (k + 1)) hA h128).symm.trans hg'.out
              have R' : Hid ((acc + c * 2 ^ (7 * k), k + 1, 0) = frR zs 0) := R.trans R0.out.symm
              have A8 := and8 c hc0 hc1
              have E : Hid (bits .or .u64 acc (IntKind.u64.wrap (c % 128 * 2 ^ (7 * k))) = acc + c * 2 ^ (7 * k)) := go_off hk9 h0 h1'.out hc0 h128 (by omega)
              clear hg' R
              by_cases hk0 : 0 < k
              · have hcz : (c == 0) = false := by simp; omega
                by_cases hk9i : (k : Int) = 9
                · have hc1' : c ≤ 1 := by omega
                  have E2 : Hid (bits .or .u64 acc (c % 128 * 9223372036854775808) = acc + c * 2 ^ (7 * k)) := go_nine (k := k) (by omega) h0 h1'.out hc0 hc1'
                  have hcx9 : w.cell? ⟨x.block, x.off + 9, none⟩ = some (.int .u8 c) := by
                    have h := hcx
                    rw [show k = 9 by omega] at h
                    exact h
                  clear hA
                  go_wp2
                  all_goals first
                    | (exfalso
                       have hx : (c == 0) = true ∨ 1 < c := by assumption
                       rw [hcz] at hx
                       rcases hx with hx | hx
                       · cases hx
                       · omega)
                    | (go_ret3
                       exact ⟨ret3 R'.out E2.out (by omega), _, rfl⟩)
                · clear hA
                  go_wp2
                  go_ret3
                  exact ⟨ret3 R'.out E.out (by omega), _, rfl⟩
              · have hk9i : ¬ (k : Int) = 9 := by omega
                clear hA
                go_wp2
                go_ret3
                exact ⟨ret3 R'.out E.out (by omega), _, rfl⟩
            · obtain ⟨r1, r2, r3⟩ := go_on (k := k) (acc := acc) (c := c) (by omega) h0 h1'.out (by omega) hc1
              have R := (gR_next (i := k) (acc := acc) (c := c) (r := zs.drop (k + 1)) hA h128).symm.trans hg'.out
              have A8 := and8 c hc0 hc1
              have hk8 : ¬ (k : Int) = 9 := by omega
              have hcz : ¬ c = 0 := by omega
              have R' : Hid (gR (k + 1) (acc + (c - 128) * 2 ^ (7 * k)) (zs.drop (k + 1)) = getR zs) := R
              have E : Hid (bits .or .u64 acc (IntKind.u64.wrap (c % 128 * 2 ^ (7 * k))) = acc + (c - 128) * 2 ^ (7 * k)) := r1
              have r2' : Hid (0 ≤ acc + (c - 128) * 2 ^ (7 * k)) := r2
              have r3' : Hid (acc + (c - 128) * 2 ^ (7 * k) < 2 ^ (7 * (k + 1))) := r3
              have hcz' : (c == 0) = false := by simp; omega
              clear hg' R r1 r2 r3 hA
              by_cases hk0 : 0 < k
              all_goals
                go_wp2
                go_round
                case rel => exact ⟨k + 1, _, by omega, by omega, by go_num, by rw [E.out], r2'.out, r3'.out, R'.out⟩
                case measure => simp [intOf]; omega
        · have hd : zs.drop k = [] := List.drop_eq_nil_of_le (by have := hl'.out; omega)
          have R : Hid ((0, 0, 40) = frR zs 0) := by have e := hg; rw [hd] at e; exact e.trans R0.out.symm
          clear hg hd hr
          first
            | (exfalso; omega)
            | (go_wp2
               go_ret3
               exact ⟨ret3 R.out rfl rfl, _, rfl⟩)
  · go_enter Try.func87, Try.ntmps87
    go_wp2
    go_quiet (fail)
    go_wp2
    go_ret3
    exact ⟨ret3 (by rw [frR, if_neg hf]) rfl rfl, _, rfl⟩
end Go.Proofs.Ythagdpiocmcbmaa.Wr

/- Rows of bytes made: joined, roomy, the copies; the comparison byte by byte. -/
namespace Go.Proofs.Ythagdpiocmcbmaa.Wr
open Go.ChangeShapes Go.WideShapes Go.ChangeAt Go.RowKit
theorem dbel (w : World) (n : Nat) : Below w.heap.size w (w.drewN n) := ⟨rfl, rfl, rfl, Nat.le_refl _, fun _ _ => rfl⟩
theorem ret_bool {a b : Bool} (h : a = b) : Ending.returned (.bool a) = .returned (.bool b) := by rw [h]
theorem Own.bel {w w' w0 : World} {base : Nat} {v : Value} {zs : List Int} (h : Own w base v zs) (hb : Below base w0 w) (k : w.grownBy w' v.ownBlock) (hB : base ≤ w.heap.size) : Below base w0 w' := by
  refine hb.grown k hB fun b hb => ?_
  rcases h.shape with ⟨rfl, _⟩ | ⟨g, cap, rfl, hg, _⟩
  · cases hb
  · cases hb; exact hg
theorem same_step {xs ys : List Int} {k : Nat} {c d : Int} (hx : xs.drop k = c :: xs.drop (k + 1)) (hy : ys.drop k = d :: ys.drop (k + 1)) (he : xs.take k = ys.take k) : (c = d → xs.take (k + 1) = ys.take (k + 1)) ∧ (c ≠ d → decide (xs = ys) = false) := by
  have kx : xs[k]? = some c := by rw [← List.head?_drop, hx]; rfl
  have ky : ys[k]? = some d := by rw [← List.head?_drop, hy]; rfl
  constructor
  · intro h
    rw [List.take_add_one, List.take_add_one, he, kx, ky, h]
  · intro h
    refine decide_eq_false fun e => h ?_
    rw [e, ky] at kx
    exact (Option.some.inj kx).symm
theorem same_end {xs ys : List Int} {k n : Nat} (hx : xs.length = n) (hy : ys.length = n) (hk : n ≤ k) (he : xs.take k = ys.take k) : decide (xs = ys) = true := by
  rw [List.take_of_length_le (by omega), List.take_of_length_le (by omega)] at he
  exact decide_eq_true he
theorem Own.slice {w : World} {base n : Nat} {v : Value} {zs : List Int} (h : Own w base v zs) (hn : zs.length = n) (hv : v ≠ .slice none 0 0) : ∃ g cap, v = .slice (some ⟨g, 0, none⟩) n cap ∧ base ≤ g ∧ g < w.heap.size ∧ n ≤ cap ∧ cap ≤ maxLen := by
  subst hn
  rcases h.shape with ⟨h, _⟩ | ⟨g, cap, h, h1, h2, h3, h4, _⟩
  · exact absurd h hv
  · exact ⟨g, cap, h, h1, h2, h3, h4⟩
theorem own_empty (w : World) : Own (w.alloc (.cells #[] 5)) w.heap.size (.slice (some ⟨w.heap.size, 0, none⟩) 0 0) [] := own_lit w w.heap.size [] Byt.nil (by unfold maxLen; simp) (Nat.le_refl _)
def marks : List Int := [91, 92, 93, 94, 95, 96, 97, 98, 99, 90, 91, 92]
theorem marks_byt : Byt marks := by
  intro z hz
  simp only [marks, List.mem_cons, List.not_mem_nil, or_false] at hz
  omega
end Go.Proofs.Ythagdpiocmcbmaa.Wr

/- Numbers put into bytes: the program's calls and the document's. -/
namespace Go.Proofs.Ythagdpiocmcbmaa.Wr
open Go.ChangeShapes Go.WideShapes Go.ChangeAt Go.RowKit
theorem Try.sizB : (Try.prog.info? 5).map (·.size) = some 1 := by kernel_rfl
theorem own_splice {w : World} {g n m : Nat} {base : Nat} {xs : List Int} (h : w.heap[g]? = some (.cells (splice (Array.replicate m (Value.int .u8 0)).toList 0 (xs.map (Value.int .u8))).toArray 5 (0, 0))) (hx : xs.length = n) (hb : Byt xs) (hnm : n ≤ m) (hm : m ≤ maxLen) (hg : base ≤ g) :
    Own w base (.slice (some ⟨g, 0, none⟩) n m) xs := by
  subst hx
  refine ⟨⟨by simp, .inr ⟨g, m, _, rfl, hg, h, hnm, hm, ?_, ?_⟩⟩, hb⟩
  · have := length_splice (Array.replicate m (Value.int .u8 0)).toList 0 (xs.map (Value.int .u8)) (by simpa using hnm)
    simpa using this
  · simp [splice]
set_option maxHeartbeats 2000000 in
set_option maxRecDepth 1000000 in
theorem putU_is (a : Option Addr) (la ca : Nat) (xs : List Int) (x : Nat) (w : World) (ha : Row w a la ca xs) (hx : x < 18446744073709551616) (hs : la + 10 ≤ 140737488355328) :
    Calls Try.prog 38 #[.slice a la ca, .int .u64 x] w fun e w' => ∃ v, e = .returned v ∧ Own w' w.heap.size v (xs ++ putR x) ∧ v ≠ .slice none 0 0 ∧ Below w.heap.size w w' := by
  have hxl : Hid (xs.length = la) := ha.1
  have hbx := ha.2.2.2.1
  have b0 : Below w.heap.size w (w.alloc (.cells (Array.replicate (la + 10) (Value.int .u8 0)) 5)) := (Below.refl _ _).alloc (Nat.le_refl _) _
  have ha0 := ha.below b0
  have hp : Hid (0 < (xs.map (Value.int .u8)).length → ∃ ad, a = some ad ∧ ∀ j v, (xs.map (Value.int .u8))[j]? = some v → (w.alloc (.cells (Array.replicate (la + 10) (Value.int .u8 0)) 5)).cell? (ad.add j) = some v) := by
    intro hpos
    cases a with
    | none => have := ha.2.2.2.2.1 rfl; have := ha.1; have := ha.2.1; simp at hpos; omega
    | some ad =>
      refine ⟨ad, rfl, fun j v hj => ?_⟩
      have hj' : j < xs.length := by
        have := (List.getElem?_eq_some_iff.1 hj).1
        simpa using this
      rw [ha0.2.2.2.2.2 ad rfl j (by rw [← ha.1]; exact hj')]
      rw [List.getElem?_map] at hj
      simp [List.getElem?_eq_getElem hj'] at hj ⊢
      exact hj
  go_enter Try.func38, Try.ntmps38
  go_wp2_with (first
    | (at_make; refine wpList_mak rfl (.tmp 7) (.tmp 10) rfl la (la + 10) _ _ rfl rfl rfl (by omega) (by omega) (by omega) ?_; intro _)
    | ((refine wpList_copy_splice rfl (.tmp 12) (.tmp 13) 28 28 rfl 5 Try.underlying28 Try.sizB _ _ _ _ _ _ rfl rfl w.heap.size 0 (Array.replicate (la + 10) (Value.int .u8 0)).toList 5 (heap_alloc_new w _) (xs.map (Value.int .u8)) (by simp [hxl.out]) (fun h => ⟨rfl, hp.out h⟩) (by have := hxl.out; simp; omega) (ints_oneCell _ _) w.heap.size w b0 (Nat.le_refl _) ?_); intro w1 hw1 b1))
  have own1 := own_splice (base := w.heap.size) hw1.out hxl.out hbx (by omega) (by unfold maxLen; omega) (Nat.le_refl _)
  clear hw1 hp ha0 b0
  go_simp
  go_loopw [1, 5] (fun u out wr => ∃ (y : Nat) (ds : List Int), u = .int .u64 y ∧ y ≤ x ∧ ds ++ putR y = putR x ∧ Own wr w.heap.size out (xs ++ ds) ∧ out ≠ .slice none 0 0 ∧ Below w.heap.size w wr) (fun u _ _ => (intOf u).toNat)
  case atStart => exact ⟨x, [], rfl, Nat.le_refl _, rfl, by simpa using own1, by simp, b1⟩
  case round =>
    obtain ⟨y, ds, rfl, hy, hd, own2, hne, b2⟩ := hrel
    have hlen : Hid (ds.length + (putR y).length ≤ 10) := by
      have h := putR_ten hx; rw [← hd, List.length_append] at h; exact h
    have hd' : Hid (ds ++ putR y = putR x) := hd
    clear hd own1 b1
    by_cases hlt : y < 128
    · have hbz : 0 ≤ (y : Int) ∧ (y : Int) < 256 := by omega
      have own3 := own2.alloc (.cells #[.int .u8 y] 5)
      have b3 := b2.alloc b2.size (.cells #[.int .u8 y] 5)
      have hput := putR_lt hlt
      have hl1 : Hid ((xs ++ ds).length + [(y : Int)].length ≤ 140737488355328) := by
        have h1 := hlen.out; have h2 := hxl.out; rw [hput] at h1; simp only [Hid, List.length_append, List.length_singleton] at *; omega
      have hd2 : Hid (xs ++ ds ++ [(y : Int)] = xs ++ putR x) := by rw [← hd'.out, hput]; simp [Hid]
      clear hput
      go_wp2_with (at_builtin; refine wpList_app rfl (.tmp 26) (.tmp 29) rfl w.heap.size _ _ [(y : Int)] rfl own3 _ _ _ rfl (row_one wr y hbz) hl1.out b3.size ?_; intro v4 w4 own4 gr4 nn4)
      go_ret
      exact ⟨_, rfl, hd2.out ▸ own4, nn4 hne, own3.bel b3 gr4 b3.size⟩
    · have A := and64 y (by omega) (by omega)
      have O := or8 ((y : Int) % 128) (by omega) (by omega)
      have hbz : 0 ≤ (y : Int) % 128 + 128 ∧ (y : Int) % 128 + 128 < 256 := by omega
      have own3 := own2.alloc (.cells #[.int .u8 ((y : Int) % 128 + 128)] 5)
      have b3 := b2.alloc b2.size (.cells #[.int .u8 ((y : Int) % 128 + 128)] 5)
      have hput := putR_ge hlt
      have hl1 : Hid ((xs ++ ds).length + [(y : Int) % 128 + 128].length ≤ 140737488355328) := by
        have h1 := hlen.out; have h2 := hxl.out; have h3 := putR_pos y; simp only [Hid, List.length_append, List.length_singleton] at *; omega
      have hd2 : Hid ((ds ++ [(y : Int) % 128 + 128]) ++ putR (y / 128) = putR x) := by rw [← hd'.out, hput]; simp [Hid]
      clear hput
      go_wp2_with (at_builtin; refine wpList_app rfl (.tmp 19) (.tmp 24) rfl w.heap.size _ _ [(y : Int) % 128 + 128] rfl own3 _ _ _ rfl (row_one wr _ hbz) hl1.out b3.size ?_; intro v4 w4 own4 gr4 nn4)
      go_roundw
      case rel => exact ⟨y / 128, ds ++ [(y : Int) % 128 + 128], by go_num, by omega, hd2.out, by rw [← List.append_assoc]; exact own4, nn4 hne, own3.bel b3 gr4 b3.size⟩
      case measure => simp [intOf]; omega
end Go.Proofs.Ythagdpiocmcbmaa.Wr

/- The document's form, numbers with a sign, copies, and a reader made. -/
namespace Go.Proofs.Ythagdpiocmcbmaa.Wr
open Go.ChangeShapes Go.WideShapes Go.ChangeAt Go.RowKit
set_option maxHeartbeats 2000000 in
set_option maxRecDepth 1000000 in
theorem refU_is (x : Nat) (w : World) (hx : x < 18446744073709551616) :
    Calls Try.prog 47 #[.int .u64 x] w fun e w' => ∃ v, e = .returned v ∧ Own w' w.heap.size v (putR x) ∧ Below w.heap.size w w' := by
  have own1 := own_none w w.heap.size
  go_enter Try.func47, Try.ntmps47
  go_wp2
  go_loopw [0, 3] (fun u out wr => ∃ (y : Nat) (ds : List Int), u = .int .u64 y ∧ y ≤ x ∧ ds ++ putR y = putR x ∧ Own wr w.heap.size out ds ∧ Below w.heap.size w wr) (fun u _ _ => (intOf u).toNat)
  case atStart => exact ⟨x, [], rfl, Nat.le_refl _, rfl, own1, Below.refl _ _⟩
  case round =>
    obtain ⟨y, ds, rfl, hy, hd, own2, b2⟩ := hrel
    have hlen : Hid (ds.length + (putR y).length ≤ 10) := by
      have h := putR_ten hx; rw [← hd, List.length_append] at h; exact h
    have hd' : Hid (ds ++ putR y = putR x) := hd
    clear hd own1
    by_cases hlt : y < 128
    · have hbz : 0 ≤ (y : Int) ∧ (y : Int) < 256 := by omega
      have own3 := own2.alloc (.cells #[.int .u8 y] 5)
      have b3 := b2.alloc b2.size (.cells #[.int .u8 y] 5)
      have hput := putR_lt hlt
      have hl1 : Hid (ds.length + [(y : Int)].length ≤ 140737488355328) := by
        have h1 := hlen.out; rw [hput] at h1; simp only [Hid, List.length_singleton] at *; omega
      have hd2 : Hid (ds ++ [(y : Int)] = putR x) := by rw [← hd'.out, hput]; rfl
      clear hput
      go_wp2_with (at_builtin; refine wpList_app rfl (.tmp 15) (.tmp 18) rfl w.heap.size _ _ [(y : Int)] rfl own3 _ _ _ rfl (row_one wr y hbz) hl1.out b3.size ?_; intro v4 w4 own4 gr4 nn4)
      go_ret
      exact ⟨_, rfl, hd2.out ▸ own4, own3.bel b3 gr4 b3.size⟩
    · have hbz : 0 ≤ (y : Int) % 128 + 128 ∧ (y : Int) % 128 + 128 < 256 := by omega
      have own3 := own2.alloc (.cells #[.int .u8 ((y : Int) % 128 + 128)] 5)
      have b3 := b2.alloc b2.size (.cells #[.int .u8 ((y : Int) % 128 + 128)] 5)
      have hput := putR_ge hlt
      have hl1 : Hid (ds.length + [(y : Int) % 128 + 128].length ≤ 140737488355328) := by
        have h1 := hlen.out; simp only [Hid, List.length_singleton] at *; omega
      have hd2 : Hid ((ds ++ [(y : Int) % 128 + 128]) ++ putR (y / 128) = putR x) := by rw [← hd'.out, hput]; simp [Hid]
      clear hput
      go_wp2_with (at_builtin; refine wpList_app rfl (.tmp 6) (.tmp 11) rfl w.heap.size _ _ [(y : Int) % 128 + 128] rfl own3 _ _ _ rfl (row_one wr _ hbz) hl1.out b3.size ?_; intro v4 w4 own4 gr4 nn4)
      go_roundw
      case rel => exact ⟨y / 128, ds ++ [(y : Int) % 128 + 128], by go_num, by omega, hd2.out, own4, own3.bel b3 gr4 b3.size⟩
      case measure => simp [intOf]; omega
/-- A number with a sign as one without. -/
def foldR (y : Int) : Nat := if 0 ≤ y then (2 * y).toNat else (-2 * y - 1).toNat
def unfR (u : Int) : Int := if u % 2 = 0 then u / 2 else -(u / 2) - 1
theorem foldR_lt {y : Int} (h1 : -9223372036854775808 ≤ y) (h2 : y ≤ 9223372036854775807) : foldR y < 18446744073709551616 := by
  unfold foldR; split <;> omega
theorem unfR_foldR (y : Int) : unfR (foldR y) = y := by
  unfold foldR unfR; split <;> split <;> omega
theorem ret_i {k : IntKind} {a b : Int} (h : a = b) : Ending.returned (.int k a) = .returned (.int k b) := by rw [h]
set_option maxHeartbeats 1000000 in
theorem fold_is (y : Int) (w : World) (h1 : -9223372036854775808 ≤ y) (h2 : y ≤ 9223372036854775807) :
    Calls Try.prog 71 #[.int .i64 y] w fun e w' => e = .returned (.int .u64 (foldR y)) ∧ w' = w := by
  by_cases h : 0 ≤ y
  · have F : Hid ((foldR y : Int) = 2 * y) := by simp only [Hid, foldR, if_pos h]; omega
    go_enter Try.func71, Try.ntmps71
    go_wp2
    go_ret
    exact ⟨ret_i F.out.symm, rfl⟩
  · have F : Hid ((foldR y : Int) = 2 * (-(y + 1)) + 1) := by simp only [Hid, foldR, if_neg h]; omega
    go_enter Try.func71, Try.ntmps71
    go_wp2
    go_ret
    exact ⟨ret_i F.out.symm, rfl⟩
theorem refS_is (y : Int) (w : World) (h1 : -9223372036854775808 ≤ y) (h2 : y ≤ 9223372036854775807) :
    Calls Try.prog 48 #[.int .i64 y] w fun e w' => ∃ v, e = .returned v ∧ Own w' w.heap.size v (putR (foldR y)) ∧ Below w.heap.size w w' := by
  have hl := foldR_lt h1 h2
  go_enter Try.func48, Try.ntmps48
  go_wp2_with fail
  refine (fold_is _ _ h1 h2).mono ?_
  rintro e w1 ⟨rfl, rfl⟩
  go_wp2_with fail
  refine (refU_is _ _ hl).mono ?_
  rintro e w1 ⟨v, rfl, own, b⟩
  go_wp2
  go_ret
  exact ⟨_, rfl, own, b⟩
theorem not64 (d : Nat) (hd : d < 18446744073709551616) : bits .xor .u64 IntKind.u64.max (d : Int) = 18446744073709551615 - d := by
  have h1 : BitVec.ofInt 64 IntKind.u64.max = BitVec.allOnes 64 := by decide
  show IntKind.u64.wrap ((BitVec.ofInt 64 IntKind.u64.max ^^^ BitVec.ofInt 64 (d : Int)).toNat : Int) = _
  rw [h1, BitVec.allOnes_xor, BitVec.toNat_not, ofInt_u64 d hd, IntKind.wrap_u64]
  omega
theorem fold_neg (y : Int) (h1 : -9223372036854775808 ≤ y) (h2 : y < 0) : bits .xor .u64 IntKind.u64.max (IntKind.u64.wrap (IntKind.u64.wrap y * 2)) = (foldR y : Int) := by
  have e : IntKind.u64.wrap (IntKind.u64.wrap y * 2) = (((2 * y + 18446744073709551616).toNat : Nat) : Int) := by rw [IntKind.wrap_u64, IntKind.wrap_u64]; omega
  rw [e, not64 _ (by omega), foldR, if_neg (by omega)]
  omega
set_option maxHeartbeats 1000000 in
theorem putS_is (a : Option Addr) (la ca : Nat) (xs : List Int) (y : Int) (w : World) (ha : Row w a la ca xs) (h1 : -9223372036854775808 ≤ y) (h2 : y ≤ 9223372036854775807) (hs : la + 10 ≤ 140737488355328) :
    Calls Try.prog 39 #[.slice a la ca, .int .i64 y] w fun e w' => ∃ v, e = .returned v ∧ Own w' w.heap.size v (xs ++ putR (foldR y)) ∧ v ≠ .slice none 0 0 ∧ Below w.heap.size w w' := by
  have hl : Hid (foldR y < 18446744073709551616) := foldR_lt h1 h2
  by_cases h : 0 ≤ y
  · have F : Hid (y * 2 = (foldR y : Int)) := by simp only [Hid, foldR, if_pos h]; omega
    go_enter Try.func39, Try.ntmps39
    go_wp2_with fail
    rw [F.out]
    refine (putU_is _ _ _ _ _ _ ha hl.out hs).mono ?_
    rintro e w1 ⟨v, rfl, own, nn, b⟩
    go_wp2
    go_ret
    exact ⟨_, rfl, own, nn, b⟩
  · have F : Hid (bits .xor .u64 IntKind.u64.max (IntKind.u64.wrap (IntKind.u64.wrap y * 2)) = (foldR y : Int)) := fold_neg y h1 (by omega)
    go_enter Try.func39, Try.ntmps39
    go_wp2_with fail
    rw [F.out]
    refine (putU_is _ _ _ _ _ _ ha hl.out hs).mono ?_
    rintro e w1 ⟨v, rfl, own, nn, b⟩
    go_wp2
    go_ret
    exact ⟨_, rfl, own, nn, b⟩
set_option maxHeartbeats 1000000 in
theorem clone_is (a : Option Addr) (la ca : Nat) (xs : List Int) (w : World) (ha : Row w a la ca xs) (hs : la ≤ 140737488355328) :
    Calls Try.prog 50 #[.slice a la ca] w fun e w' => ∃ v, e = .returned v ∧ Own w' w.heap.size v xs ∧ Below w.heap.size w w' := by
  have hxl : Hid (xs.length = la) := ha.1
  have q22 : ∀ (w : World) (a : Option Addr) (n c n' c' : Nat), (binOp .eql 28 (.slice a n c) (.slice none n' c')).run Try.prog w = .ok (.bool a.isNone) w := fun w a n c n' c' => Lib.run_eql_slice_nil w _ _ a n c n' c' Try.underlying28
  cases a with
  | none =>
    obtain rfl : ca = 0 := ha.2.2.2.2.1 rfl
    obtain rfl : la = 0 := Nat.le_zero.1 ha.2.1
    obtain rfl : xs = [] := List.eq_nil_of_length_eq_zero ha.1
    have own := own_none w w.heap.size
    go_enter Try.func50, Try.ntmps50
    go_wp2
    go_ret
    exact ⟨_, rfl, own, Below.refl _ _⟩
  | some p =>
    have own0 := own_empty w
    have b0 : Below w.heap.size w (w.alloc (.cells #[] 5)) := (Below.refl _ _).alloc (Nat.le_refl _) _
    go_enter Try.func50, Try.ntmps50
    go_wp2_with (at_builtin; refine wpList_app rfl (.tmp 5) (.tmp 6) rfl w.heap.size (.slice (some ⟨w.heap.size, 0, none⟩) 0 0) [] xs rfl own0 _ _ _ rfl (ha.below b0) (by have := hxl.out; simp; omega) (by simp) ?_; intro v1 w1 own1 gr1 nn1)
    go_ret
    exact ⟨_, rfl, own1, own0.bel b0 gr1 b0.size⟩
set_option maxHeartbeats 1000000 in
theorem new_is (a : Option Addr) (la ca : Nat) (xs : List Int) (w : World) (ha : Row w a la ca xs) (hs : la ≤ 140737488355328) :
    Calls Try.prog 32 #[.slice a la ca] w fun e w' => ∃ B, e = .returned (.pointer (some ⟨B, 0, none⟩)) ∧ Rd w' B 102 xs 0 ∧ w.heap.size ≤ B ∧ Below w.heap.size w w' := by
  go_enter Try.func32, Try.ntmps32
  go_wp2_with fail
  refine (clone_is _ _ _ _ _ ha hs).mono ?_
  rintro e w1 ⟨v, rfl, own, b⟩
  obtain ⟨a', c', rfl, row, hw⟩ := own.row
  have hw' : Hid (∀ x, a' = some x → x.block < w1.heap.size) := fun x hx => (hw x hx).2
  clear hw
  go_wp2
  go_ret
  refine ⟨w1.heap.size, rfl, ⟨a', _, c', heap_alloc_new w1 _, row.below ((Below.refl _ _).alloc (Nat.le_refl _) _), hw'.out⟩, b.size, b.alloc b.size _⟩
end Go.Proofs.Ythagdpiocmcbmaa.Wr
