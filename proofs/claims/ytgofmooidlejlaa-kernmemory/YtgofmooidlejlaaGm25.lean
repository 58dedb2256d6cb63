/- What values and tensor of package plain return. What tensor of package plain returns. Rows of lists of int8 in memory; slices.Clone. What Tensors of package plain returns. What Eval of package plain returns. What Totals of package plain returns. plain and fixed of law10. The law's own model and fixed answers of layer 11. The document's Same of layer 11, of lists that are the same; faults compared. What Op of package kern returns. -/
import Derived.Test.YtgofmooidlejlaaGr18
import Derived.Test.YtgofmooidlejlaaGr19
import Derived.Test.YtgofmooidlejlaaGr21
import Derived.Test.YtgofmooidlejlaaGr22
import Derived.Test.YtgofmooidlejlaaGr23
import Derived.Test.YtgofmooidlejlaaGr24
import Derived.Lib.SliceRun
/- What values and tensor of package plain return. -/
namespace Go.Proofs.Ytgofmooidlejlaa
open Go.ChangeShapes Go.WideShapes Go.ChangeAt Go.RowKit
set_option linter.unusedVariables false
/-! ### Sums, scaled -/
/-! ### Means -/
/-! ### The greatest -/
/-! ### Both tensors -/
/-! ### One tensor -/
/-! ### Whatever the kind -/
end Go.Proofs.Ytgofmooidlejlaa

/- What tensor of package plain returns. -/
namespace Go.Proofs.Ytgofmooidlejlaa
open Go.ChangeShapes Go.WideShapes Go.ChangeAt Go.RowKit
set_option linter.unusedVariables false
end Go.Proofs.Ytgofmooidlejlaa

/- Rows of lists of int8 in memory; slices.Clone. -/
namespace Go.Proofs.Ytgofmooidlejlaa
open Go.ChangeShapes Go.WideShapes Go.ChangeAt Go.RowKit
set_option linter.unusedVariables false
/-- Lists that a call made, none in the block of another. -/
def Ells (w : World) (base : Nat) (ss : List Value) (Ts : List (List Int)) : Prop :=
  ss.length = Ts.length ∧ (∀ i, i < ss.length → Own .i8 63 w base (ss.getD i (.slice none 0 0)) (Ts.getD i [])) ∧
    ∀ i j b, i < ss.length → j < ss.length → (ss.getD i (.slice none 0 0)).ownBlock = some b → (ss.getD j (.slice none 0 0)).ownBlock = some b → i = j
theorem own_lt {k : IntKind} {T : TypeId} {w : World} {base b : Nat} {v : Value} {zs : List Int} (h : Own k T w base v zs) (hb : v.ownBlock = some b) : b < w.heap.size := by
  rcases h.shape with ⟨rfl, _⟩ | ⟨g, cap, rfl, _, hl, _⟩
  · simp [Value.ownBlock] at hb
  · obtain rfl : g = b := by simpa [Value.ownBlock] using hb
    exact hl
/-- A row of slices that the call owns. -/
def ORs (w : World) (base : Nat) (v : Value) (ss : List Value) : Prop := w.ownsRow base 31 1 v ss.length ss
/-- A row of lists: the slices lie in memory, each its numbers. -/
def LLs (w : World) (base : Nat) (v : Value) (Ts : List (List Int)) : Prop := ∃ ss, ORs w base v ss ∧ Ells w base ss Ts
/-- What a row of lists reads as. -/
def TRd (w : World) (v : Value) (Ts : List (List Int)) : Prop :=
  ∃ a cap, v = .slice a Ts.length cap ∧ Ts.length ≤ cap ∧ cap ≤ maxLen ∧ (0 < Ts.length → ∃ g, a = some ⟨g, 0, none⟩ ∧ ∀ i, i < Ts.length → ∃ ad c, w.cell? ⟨g, i, none⟩ = some (.slice ad (Ts.getD i []).length c) ∧ IRow .i8 w ad (Ts.getD i []).length c (Ts.getD i []))
/-! ### A row with room -/
def LG (w : World) (g cap : Nat) (ss : List Value) : Prop := ∃ cur : Array Value, w.heap[g]? = some (.cells cur 31 (0, 0)) ∧ cur.size = cap ∧ ss.length ≤ cap ∧ cur.toList.take ss.length = ss
/-! ### slices.Clone -/
end Go.Proofs.Ytgofmooidlejlaa

/- What Tensors of package plain returns. -/
namespace Go.Proofs.Ytgofmooidlejlaa
open Go.ChangeShapes Go.WideShapes Go.ChangeAt Go.RowKit
set_option linter.unusedVariables false
end Go.Proofs.Ytgofmooidlejlaa

/- What Eval of package plain returns. -/
namespace Go.Proofs.Ytgofmooidlejlaa
open Go.ChangeShapes Go.WideShapes Go.ChangeAt Go.RowKit
set_option linter.unusedVariables false
end Go.Proofs.Ytgofmooidlejlaa

/- What Totals of package plain returns. -/
namespace Go.Proofs.Ytgofmooidlejlaa
open Go.ChangeShapes Go.WideShapes Go.ChangeAt Go.RowKit
set_option linter.unusedVariables false
/-- The error of Totals. -/
def toE (O : Nat → Nat → Int) (h w c lo hi ot : Int) (on : Nat) (op : Int) (n x0 y0 z0 : Int) : Int := if fiE O h w c lo hi ot on op ≠ 0 then fiE O h w c lo hi ot on op else if n = x0 * y0 * z0 then 0 else 70
end Go.Proofs.Ytgofmooidlejlaa

/- plain and fixed of law10. -/
namespace Go.Proofs.Ytgofmooidlejlaa
open Go.ChangeShapes Go.WideShapes Go.ChangeAt Go.RowKit
set_option linter.unusedVariables false
def plZ (_ : Nat) : List Int := [3, -2]
def plB (_ : Nat) : List Int := [1]
theorem irow_blk {k : IntKind} {w : World} {b : Nat} {T : TypeId} (zs : List Int) (h : w.heap[b]? = some (.cells (zs.map (Value.int k)).toArray T (0, 0))) (hw : ∀ z ∈ zs, (Lit.int k z).wf = true) (hm : zs.length ≤ 1000) : IRow k w (some ⟨b, 0, none⟩) zs.length zs.length zs := by
  refine ⟨rfl, Nat.le_refl _, by unfold maxLen; omega, hw, fun h => (by cases h), fun x hx i hi => ?_⟩
  cases hx
  rw [Addr.add_lit, Nat.zero_add, (cells_at h).1]
  simp [List.getD, hi]
end Go.Proofs.Ytgofmooidlejlaa

/- The law's own model and fixed answers of layer 11. -/
namespace Go.Proofs.Ytgofmooidlejlaa
open Go.ChangeShapes Go.WideShapes Go.ChangeAt Go.RowKit
set_option linter.unusedVariables false
theorem irow_new (w : World) (zs : List Int) (hw : ∀ z ∈ zs, I8 z) (hm : zs.length ≤ 1000) : IRow .i8 (w.alloc (.cells (zs.map (Value.int .i8)).toArray 63)) (some ⟨w.heap.size, 0, none⟩) zs.length zs.length zs := irow_blk zs (heap_alloc_new w _) (fun z hz => mk_i8 (hw z hz)) hm
end Go.Proofs.Ytgofmooidlejlaa

/- The document's Same of layer 11, of lists that are the same; faults compared. -/
namespace Go.Proofs.Ytgofmooidlejlaa
open Go.ChangeShapes Go.WideShapes Go.ChangeAt Go.RowKit
set_option linter.unusedVariables false
theorem neFt (a b c d e f : Int) (v : Bool) (h : decide (a = d ∧ b = e ∧ c = f) = v) : ∀ W, (binOp .neq 38 (.agg #[.int .i64 a, .int .i64 b, .int .i64 c]) (.agg #[.int .i64 d, .int .i64 e, .int .i64 f])).run Try.prog W = .ok (.bool (!v)) W := by
  intro W; subst h; simp [go_sem]; repeat' split
  all_goals simp_all
theorem eqFt (a b c d e f : Int) (v : Bool) (h : decide (a = d ∧ b = e ∧ c = f) = v) : ∀ W, (binOp .eql 38 (.agg #[.int .i64 a, .int .i64 b, .int .i64 c]) (.agg #[.int .i64 d, .int .i64 e, .int .i64 f])).run Try.prog W = .ok (.bool v) W := by
  intro W; subst h; simp [go_sem]; repeat' split
  all_goals simp_all
set_option maxHeartbeats 1000000 in
theorem same8_any (a b : Option Addr) (n ca cb : Nat) (xs : List Int) (W : World) (ha : IRow .i8 W a n ca xs) (hb : IRow .i8 W b n cb xs) :
    Calls Try.prog 9 #[.slice a n ca, .slice b n cb] W fun e w' => e = .returned (.bool true) ∧ ∃ q, w' = W.drewN q := by
  have HA : Hid (IRow .i8 W a n ca xs) := ha
  have HB : Hid (IRow .i8 W b n cb xs) := hb
  have h1 := ha.2.1
  have h2 := ha.2.2.1
  have h3 := hb.2.1
  have h4 := hb.2.2.1
  unfold maxLen at h2 h4
  clear ha hb
  go_enter Try.func9, Try.ntmps9
  go_wp2
  go_loopw [13] (fun i wr => ∃ k q : Nat, k ≤ n ∧ i = .int .i64 k ∧ wr = W.drewN q) (fun i _ => n - (intOf i).toNat)
  case atStart => exact ⟨0, 0, Nat.zero_le _, rfl, rfl⟩
  case round =>
    obtain ⟨k, q, hk, rfl, rfl⟩ := hrel
    by_cases hlt : k < n
    · obtain ⟨x1, u, rfl, hu, hw, hz, -⟩ := HA.out.at hlt
      obtain ⟨x2, u', rfl, hu', -, hz', -⟩ := HB.out.at hlt
      obtain rfl : u = u' := by rw [hz] at hz'; exact Option.some.inj hz'
      clear hz hz' hw
      go_wp2
      go_quiet (fail)
      go_wp2
      go_roundw
      case rel => exact ⟨k + 1, _, by omega, by go_num, rfl⟩
      case measure => simp [intOf]; omega
    · go_wp2
      go_ret
      exact ⟨rfl, _, rfl⟩
theorem same8_b (a b : Option Addr) (n ca cb : Nat) (xs : List Int) (W : World) (ha : IRow .i8 W a n ca xs) (hb : IRow .i8 W b n cb xs) :
    Calls Try.prog 9 #[.slice a n ca, .slice b n cb] W fun e w' => e = .returned (.bool true) ∧ Below W.heap.size W w' :=
  (same8_any a b n ca cb xs W ha hb).mono fun e w' ⟨h, q, hq⟩ => ⟨h, by rw [hq]; exact dbel _ _⟩
end Go.Proofs.Ytgofmooidlejlaa

/- What Op of package kern returns. -/
namespace Go.Proofs.Ytgofmooidlejlaa.Kr
open Go.ChangeShapes Go.WideShapes Go.ChangeAt Go.RowKit
set_option linter.unusedVariables false
theorem vaK_len {k b m kh kw sh sw tp lf bt rt : Int} {lw lb : Nat} {sm ss um us z p lo hi h w c H V C len : Int} (s : Opd k b m kh kw sh sw tp lf bt rt lw lb sm ss um us z p lo hi h w c H V C) {SS x y : List Int} (hS : SS.length = (H * V * C).toNat) (hx : (x.length : Int) = h * w * c) : ((vaK k kh kw sh sw sm ss um us w c V C len (H * V * C).toNat SS x y).length : Int) = H * V * C := by
  have hb := (vS_bd s.hB).2
  unfold vaK
  split
  · unfold apL; rw [List.length_map, hS]; omega
  split
  · unfold meL; rw [List.length_map, hS]; omega
  split
  · rw [grL_len]; omega
  have e : H * V * C = h * w * c := by rw [(s.s6 (by omega)).1, (s.s6 (by omega)).2, s.c3 (by omega)]
  split
  · unfold adL apL; simp; omega
  split
  · unfold apL; simp; omega
  · omega
theorem done_any (k a b m kh kw sh sw tp lf bt rt : Int) (wa : Option Addr) (lw cw : Nat) (ba : Option Addr) (lb bc : Nat) (sm ss um us z p lo hi h w c H V C : Int) (s : Opd k b m kh kw sh sw tp lf bt rt lw lb sm ss um us z p lo hi h w c H V C) (zs bs : List Int) (W : World) (hZ : IRow .i16 W wa lw cw zs) (hBs : IRow .i32 W ba lb bc bs) (hlw : lw * 2 ≤ 140737488351232) (hlb : lb * 4 ≤ 140737488351232) (r : Nat) (ln pn : Int) (hln : k ≤ 4 → ln = stR k kh kw h w c) (hr : W.heap[r]? = some (.cells #[.int .i64 k, .int .i64 a, .int .i64 b, .int .i64 m, .int .i64 kh, .int .i64 kw, .int .i64 sh, .int .i64 sw, .int .i64 tp, .int .i64 lf, .int .i64 bt, .int .i64 rt, .slice wa lw cw, .slice ba lb bc, .int .i64 sm, .int .i64 ss, .int .i64 um, .int .i64 us, .int .i64 z, .int .i64 p, .int .i64 lo, .int .i64 hi, .int .i64 h, .int .i64 w, .int .i64 c, .int .i64 H, .int .i64 V, .int .i64 C, .int .i64 ln, .int .i64 pn] 76 (0, 0)))
    (pa : Option Addr) (pl pc : Nat) (PS : List Pl) (hPS : ERow 6 pcs W pa pl pc PS) (hok : k ≤ 4 → Pok (stR k kh kw h w c) C PS) (ad : Option Addr) (n cap : Nat) (xs : List Int) (hX : IRow .i8 W ad n cap xs) (hn : (n : Int) = h * w * c) (bd : Option Addr) (nb capb : Nat) (ys : List Int) (hY : IRow .i8 W bd nb capb ys) (hnb : k = 6 → nb = n) :
    Calls Try.prog 19 #[.pointer (some ⟨r, 0, none⟩), .slice pa pl pc, .slice ad n cap, .slice bd nb capb] W fun e w' => (∃ v, e = .returned (.tuple #[v, .agg (if k ≤ 4 then dsT k kh kw sh sw tp lf bt rt h w c C p zs bs xs PS (H * V * C).toNat else Tr.z).cs]) ∧ Own .i8 63 w' W.heap.size v (fiL (vaK k kh kw sh sw sm ss um us w c V C (stR k kh kw h w c) (H * V * C).toNat (dsL k kh kw sh sw tp lf bt rt h w c C p zs bs xs PS (H * V * C).toNat) xs ys) z lo hi)) ∧ Below W.heap.size W w' := by
  have hrz := lt_of_heap hr
  have hxl : (xs.length : Int) = h * w * c := by rw [hX.1]; exact hn
  have hbA := (vS_bd s.hA).2
  have hbB := (vS_bd s.hB).2
  have hp8 : I8 p := by have := s.rz; unfold rzB vlB at this; simp at this; exact ⟨this.2.1, this.2.2⟩
  have hvl := vaK_len (len := stR k kh kw h w c) (y := ys) s (dsL_len k kh kw sh sw tp lf bt rt h w c C p zs bs xs PS (H * V * C).toNat) hxl
  refine done_v k a b m kh kw sh sw tp lf bt rt wa lw cw ba lb bc sm ss um us z p lo hi h w c H V C ln pn r W hr s.hk pa pl pc ad n cap xs hX (by omega) bd nb capb ys hY hnb (dsL k kh kw sh sw tp lf bt rt h w c C p zs bs xs PS (H * V * C).toNat) (grL kh kw sh sw w c V C xs (H * V * C).toNat) (if k ≤ 4 then dsT k kh kw sh sw tp lf bt rt h w c C p zs bs xs PS (H * V * C).toNat else Tr.z) (fun h4 w' hb => ?_) (fun h5 w' hb => ?_) (by rw [dsL_len]; omega) ?_ (fun h4 => ?_) (fun h5 => if_neg (by omega)) _ ?_ (by omega)
  · rw [if_pos h4]
    exact sums_any k a b m kh kw sh sw tp lf bt rt wa lw cw ba lb bc sm ss um us z p lo hi h w c H V C ln pn r w' ((hb.block r hrz).trans hr) s h4 zs bs (hZ.below hb) (hBs.below hb) hlw hlb ad n cap xs (hX.below hb) hn (hln h4) pa pl pc PS (hPS.below hb) (hok h4)
  · subst h5
    have hou := s.ou (by decide)
    have hoz := of_decide_eq_true s.oz
    obtain ⟨rfl, rfl, rfl, rfl⟩ := hoz.2.2.2.2.2.2 (.inr rfl)
    rcases ouR_cases h w c kh kw sh sw 0 0 0 0 with ⟨e, he, h2⟩ | ⟨rr, qq, he, hf⟩
    · rw [he] at hou
      simp only [Prod.mk.injEq] at hou
      omega
    · rw [he] at hou
      simp only [Prod.mk.injEq, and_true] at hou
      obtain ⟨rfl, rfl⟩ := hou
      obtain ⟨-, ⟨i1, i2, i3, i4, -⟩, -, -, g1, g2⟩ := hf
      exact greatest_any 5 a b m kh kw sh sw 0 0 0 0 wa lw cw ba lb bc sm ss um us z p lo hi h w c rr qq C ln pn r w' ((hb.block r hrz).trans hr) ad n cap xs (hX.below hb) hn s.hA s.hB i1 i2 i3 i4 (by omega) (by omega) (s.c3 (by decide))
  · by_cases h4 : k ≤ 4
    · intro v hv
      have := dsL_bd (s.si h4) hZ.2.2.2.1 hBs.2.2.2.1 (H * V * C).toNat v hv
      omega
    · intro v hv
      obtain ⟨j, -, rfl⟩ := List.mem_map.1 hv
      have := (dtR_ok (n := 0) (wd := (pcA PS ((j : Int) % C + 1)).1) (dp := (pcA PS ((j : Int) % C + 1)).2.1) (bi := biA k ((j : Int) % C + 1) bs) ((siL k kh kw sh sw tp lf bt rt h w c ((j : Int) % C + 1) ((j : Int) / C) zs).map (smT p xs)) (biA_bd hBs.2.2.2.1)).2
      unfold dsF
      omega
  · rw [hln (by omega)]
    have h1 := (s.si (by omega)).2.2.2.2.2.2.2.2.1
    have h2 := (s.si (by omega)).2.2.2.2.2.2.2.2.2
    omega
  · unfold vaK
    split
    · rfl
    split
    · rename_i q
      rw [hln (by omega)]
    · rfl
end Go.Proofs.Ytgofmooidlejlaa.Kr
