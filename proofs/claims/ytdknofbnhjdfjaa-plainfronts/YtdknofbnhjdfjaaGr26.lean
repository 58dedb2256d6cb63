/- What alone of package plain returns: a model of one op. What greatestUnder and greatest of package plain return. What greatest of package plain returns; lists that grow. What sums of package plain returns: all sums of an op that reduces. What values and tensor of package plain return. What tensor of package plain returns. Rows of lists of int8 in memory; slices.Clone. -/
import Derived.Test.YtdknofbnhjdfjaaGr09
import Derived.Test.YtdknofbnhjdfjaaGr15
import Derived.Test.YtdknofbnhjdfjaaGr25
import Derived.Deep.RegionLawGrows
import Derived.Lib.SliceRun
/- What alone of package plain returns: a model of one op. -/
namespace Go.Proofs.Ytdknofbnhjdfjaa
open Go.ChangeShapes Go.WideShapes Go.ChangeAt Go.RowKit
set_option linter.unusedVariables false
/-! ### The op alone -/
theorem lcells {w : World} {B : Nat} {cs : Array Value} {T : TypeId} (h : w.heap[B]? = some (.cells cs T (0, 0))) {l : List Value} (hl : ∀ (q : Nat) (v : Value), l[q]? = some v → cs[q]? = some v) : ∀ (q : Nat) (v : Value), l[q]? = some v → w.cell? ((⟨B, 0, none⟩ : Addr).add q) = some v := fun q v hq => by
  rw [Addr.add_lit, Nat.zero_add, (cells_at h).1]
  exact hl q v hq
theorem fget (l r : List Value) : ∀ (q : Nat) (v : Value), l[q]? = some v → (l ++ r).toArray[q]? = some v := fun q v hq => by
  have := (List.getElem?_eq_some_iff.1 hq).1
  rw [List.getElem?_toArray, List.getElem?_append_left this]
  exact hq
/-- An operation that yields a value and leaves a world, both said. -/
theorem wpList_run1 {P : Program} {ops : Array Oper} {rest : List Oper} {o : Oper} {a : Act} {w : World} {Q : Exit → Act → World → Prop} (hg : o.guard = none) (dst : Option Tmp) (hdst : o.dst = dst)
    (v : Value) (w' : World) (hrun : (execOp a.eval o).run P w = .ok (.value v) w') (h : wpList P ops Q rest (a.put dst v) w') : wpList P ops Q (o :: rest) a w := by
  subst hdst
  refine wpList_plain hg fun K hK => ?_
  unfold Oper.wp
  rw [hrun, Oper.upon_value]
  exact hK _ _ h
theorem wp_run1 {P : Program} {o : Oper} {a : Act} {w w' : World} {v : Value} {K : Act → World → Prop} {Q : Exit → Act → World → Prop} (hrun : (execOp a.eval o).run P w = .ok (.value v) w') (h : K (a.put o.dst v) w') : o.wp P a w K Q := by
  unfold Oper.wp
  rw [hrun, Oper.upon_value]
  exact h
theorem stepW {P : Program} {ops : Array Oper} {md : Region.Mode} {C : World → Prop} {Q : Exit → Act → World → Prop} (i : Nat) {o : Oper} {fuel : Nat} {listed : Array Bool} {a : Act} {w : World} (hC : C w) (hr : Region.ready md ops listed = [i]) (ho : ops[i]? = some o) (hg : o.guard = none)
    (h : ∀ K : Act → World → Prop, (∀ a w, wpAnyC Fence.wide 3 P md ops C Q fuel (listed.setIfInBounds i true) a w → K a w) → o.wp P a w K Q) : wpAnyC Fence.wide 3 P md ops C Q (fuel + 1) listed a w :=
  stepC i hC hr ho fun K hK => step_wp hg (h K hK)
theorem stepR {P : Program} {ops : Array Oper} {md : Region.Mode} {C : World → Prop} {Q : Exit → Act → World → Prop} (i : Nat) {o : Oper} {fuel : Nat} {listed : Array Bool} {a : Act} {w : World} (hC : C w) (hr : Region.ready md ops listed = [i]) (ho : ops[i]? = some o) (hg : o.guard = none)
    (v : Value) (w' : World) (hrun : (execOp a.eval o).run P w = .ok (.value v) w') (h : wpAnyC Fence.wide 3 P md ops C Q fuel (listed.setIfInBounds i true) (a.put o.dst v) w') : wpAnyC Fence.wide 3 P md ops C Q (fuel + 1) listed a w :=
  stepW i hC hr ho hg fun K hK => wp_run1 hrun (hK _ _ h)
/-- A call. -/
theorem stepK {P : Program} {ops : Array Oper} {md : Region.Mode} {C : World → Prop} {Q : Exit → Act → World → Prop} (i : Nat) {o : Oper} {fuel : Nat} {listed : Array Bool} {a : Act} {w : World} (hC : C w) (hr : Region.ready md ops listed = [i]) (ho : ops[i]? = some o) (hg : o.guard = none)
    (f : FuncId) (args : Array Value) (hrun : (execOp a.eval o).run P w = .ok (.enter f args) w) {R : Ending → World → Prop} (hcall : Calls P f args w R)
    (h : ∀ e w', R e w' → ∃ v, e = .returned v ∧ wpAnyC Fence.wide 3 P md ops C Q fuel (listed.setIfInBounds i true) (a.put o.dst v) w') : wpAnyC Fence.wide 3 P md ops C Q (fuel + 1) listed a w :=
  stepW i hC hr ho hg fun K hK => by
    unfold Oper.wp
    rw [hrun]
    refine Calls.mono hcall fun e w' he => ?_
    obtain ⟨v, rfl, hv⟩ := h e w' he
    exact hK _ _ hv
theorem stepS {P : Program} {ops : Array Oper} {md : Region.Mode} {C : World → Prop} {Q : Exit → Act → World → Prop} (i : Nat) {o : Oper} {fuel : Nat} {listed : Array Bool} {a : Act} {w : World} (hC : C w) (hr : Region.ready md ops listed = [i]) (ho : ops[i]? = some o) (hg : o.guard = none)
    (ty : TypeId) (x y : Operand) (hop : o.op = .store ty x y) (g : Nat) (cells : Array Value) (hx : a.eval x = .pointer (some ⟨g, 0, none⟩)) (hy : a.eval y = .agg cells) (t : TypeId) (old : Array Value) (hh : w.heap[g]? = some (.cells old t (0, 0))) (hi : (P.info? ty).map (·.size) = some cells.size) (hold : old.size = cells.size) (h1 : cells.all (·.oneCell') = true)
    (h : wpAnyC Fence.wide 3 P md ops C Q fuel (listed.setIfInBounds i true) (a.put o.dst undef) (w.setRow g cells)) : wpAnyC Fence.wide 3 P md ops C Q (fuel + 1) listed a w :=
  stepW i hC hr ho hg fun K hK => wp_store_row ty x y hop g cells hx hy t old hh hi hold h1 (hK _ _ h)
set_option maxRecDepth 100000 in
set_option maxHeartbeats 8000000 in
theorem alone_any (k a b m kh kw sh sw tp lf bt rt : Int) (wa : Option Addr) (lw wc : Nat) (ba : Option Addr) (lb bc : Nat) (sm ss um us z p lo hi h w c H V C : Int) (r : Nat) (W : World) (hr : W.heap[r]? = some (.cells #[.int .i64 k, .int .i64 a, .int .i64 b, .int .i64 m, .int .i64 kh, .int .i64 kw, .int .i64 sh, .int .i64 sw, .int .i64 tp, .int .i64 lf, .int .i64 bt, .int .i64 rt, .slice wa lw wc, .slice ba lb bc, .int .i64 sm, .int .i64 ss, .int .i64 um, .int .i64 us, .int .i64 z, .int .i64 p, .int .i64 lo, .int .i64 hi, .int .i64 h, .int .i64 w, .int .i64 c, .int .i64 H, .int .i64 V, .int .i64 C] 76 (0, 0))) :
    Calls Try.prog 43 #[.pointer (some ⟨r, 0, none⟩)] W fun e w' => ∃ g, e = .returned (.agg #[.int .i64 h, .int .i64 w, .int .i64 c, .int .i64 0, .int .i64 0, .slice (some ⟨g, 0, none⟩) 1 1, .int .i64 0]) ∧ w'.heap[g]? = some (.cells #[.int .i64 k, .int .i64 0, .int .i64 b, .int .i64 m, .int .i64 kh, .int .i64 kw, .int .i64 sh, .int .i64 sw, .int .i64 tp, .int .i64 lf, .int .i64 bt, .int .i64 rt, .slice wa lw wc, .slice ba lb bc, .int .i64 sm, .int .i64 ss, .int .i64 um, .int .i64 us, .int .i64 z, .int .i64 p, .int .i64 lo, .int .i64 hi] 39 (0, 0)) ∧ W.heap.size ≤ g ∧ Below W.heap.size W w' := by
  have hrz := lt_of_heap hr
  have s0 := (St.start W).new (c := #[.int .i64 0, .int .i64 0, .int .i64 0, .int .i64 0, .int .i64 0, .slice none 0 0, .int .i64 0]) (t := 26)
  have hr0 := (s0.below.block r hrz).trans hr
  have HL : Hid (∀ q v, [.int .i64 k, .int .i64 a, .int .i64 b, .int .i64 m, .int .i64 kh, .int .i64 kw, .int .i64 sh, .int .i64 sw, .int .i64 tp, .int .i64 lf, .int .i64 bt, .int .i64 rt, .slice wa lw wc, .slice ba lb bc, .int .i64 sm, .int .i64 ss, .int .i64 um, .int .i64 us, .int .i64 z, .int .i64 p, .int .i64 lo, .int .i64 hi][q]? = some v → (W.alloc (.cells #[.int .i64 0, .int .i64 0, .int .i64 0, .int .i64 0, .int .i64 0, .slice none 0 0, .int .i64 0] 26)).cell? ((⟨r, 0, none⟩ : Addr).add q) = some v) := lcells hr0 (fget [.int .i64 k, .int .i64 a, .int .i64 b, .int .i64 m, .int .i64 kh, .int .i64 kw, .int .i64 sh, .int .i64 sw, .int .i64 tp, .int .i64 lf, .int .i64 bt, .int .i64 rt, .slice wa lw wc, .slice ba lb bc, .int .i64 sm, .int .i64 ss, .int .i64 um, .int .i64 us, .int .i64 z, .int .i64 p, .int .i64 lo, .int .i64 hi] [.int .i64 h, .int .i64 w, .int .i64 c, .int .i64 H, .int .i64 V, .int .i64 C])
  have HR : Hid (W.heap[r]? = some (.cells #[.int .i64 k, .int .i64 a, .int .i64 b, .int .i64 m, .int .i64 kh, .int .i64 kw, .int .i64 sh, .int .i64 sw, .int .i64 tp, .int .i64 lf, .int .i64 bt, .int .i64 rt, .slice wa lw wc, .slice ba lb bc, .int .i64 sm, .int .i64 ss, .int .i64 um, .int .i64 us, .int .i64 z, .int .i64 p, .int .i64 lo, .int .i64 hi, .int .i64 h, .int .i64 w, .int .i64 c, .int .i64 H, .int .i64 V, .int .i64 C] 76 (0, 0))) := hr
  have s1 := s0.new (c := #[.int .i64 k, .int .i64 a, .int .i64 b, .int .i64 m, .int .i64 kh, .int .i64 kw, .int .i64 sh, .int .i64 sw, .int .i64 tp, .int .i64 lf, .int .i64 bt, .int .i64 rt, .slice wa lw wc, .slice ba lb bc, .int .i64 sm, .int .i64 ss, .int .i64 um, .int .i64 us, .int .i64 z, .int .i64 p, .int .i64 lo, .int .i64 hi]) (t := 39)
  simp only [World.size_alloc] at s1
  have S1 : Hid (St W _ _) := s1
  clear hr hr0 s0 s1
  go_enter Try.func43, Try.ntmps43
  go_upto_region 1 with fail
  obtain ⟨w0, hw0⟩ : ∃ w0, W.alloc (.cells #[.int .i64 0, .int .i64 0, .int .i64 0, .int .i64 0, .int .i64 0, .slice none 0 0, .int .i64 0] 26) = w0 := ⟨_, rfl⟩
  rw [hw0] at HL S1 ⊢
  have hz0 : w0.heap.size = W.heap.size + 1 := by rw [← hw0]; simp
  rw [← hz0] at S1
  have HZ0 : Hid (w0.heap.size = W.heap.size + 1) := hz0
  clear hw0 hz0
  obtain ⟨vo, hvo⟩ : ∃ vo, Value.agg #[.int .i64 k, .int .i64 a, .int .i64 b, .int .i64 m, .int .i64 kh, .int .i64 kw, .int .i64 sh, .int .i64 sw, .int .i64 tp, .int .i64 lf, .int .i64 bt, .int .i64 rt, .slice wa lw wc, .slice ba lb bc, .int .i64 sm, .int .i64 ss, .int .i64 um, .int .i64 us, .int .i64 z, .int .i64 p, .int .i64 lo, .int .i64 hi] = vo := ⟨_, rfl⟩
  have HVO : Hid (Value.agg #[.int .i64 k, .int .i64 a, .int .i64 b, .int .i64 m, .int .i64 kh, .int .i64 kw, .int .i64 sh, .int .i64 sw, .int .i64 tp, .int .i64 lf, .int .i64 bt, .int .i64 rt, .slice wa lw wc, .slice ba lb bc, .int .i64 sm, .int .i64 ss, .int .i64 um, .int .i64 us, .int .i64 z, .int .i64 p, .int .i64 lo, .int .i64 hi] = vo) := hvo
  go_upto_region 2 with ((refine wpList_load_any rfl 39 (.tmp 6) rfl _ rfl [.int .i64 k, .int .i64 a, .int .i64 b, .int .i64 m, .int .i64 kh, .int .i64 kw, .int .i64 sh, .int .i64 sw, .int .i64 tp, .int .i64 lf, .int .i64 bt, .int .i64 rt, .slice wa lw wc, .slice ba lb bc, .int .i64 sm, .int .i64 ss, .int .i64 um, .int .i64 us, .int .i64 z, .int .i64 p, .int .i64 lo, .int .i64 hi] _ HL.out Try.underlying39 rfl (by kernel_rfl) ?_; (show wpList _ _ _ _ (Act.put _ _ (Value.agg #[.int .i64 k, .int .i64 a, .int .i64 b, .int .i64 m, .int .i64 kh, .int .i64 kw, .int .i64 sh, .int .i64 sw, .int .i64 tp, .int .i64 lf, .int .i64 bt, .int .i64 rt, .slice wa lw wc, .slice ba lb bc, .int .i64 sm, .int .i64 ss, .int .i64 um, .int .i64 us, .int .i64 z, .int .i64 p, .int .i64 lo, .int .i64 hi])) _); rw [hvo]; clear hvo; refine wpList_run1 rfl (some 3) rfl (.pointer (some ⟨w0.heap.size, 0, none⟩)) (w0.alloc (.cells #[.int .i64 0, .int .i64 0, .int .i64 0, .int .i64 0, .int .i64 0, .int .i64 0, .int .i64 0, .int .i64 0, .int .i64 0, .int .i64 0, .int .i64 0, .int .i64 0, .slice none 0 0, .slice none 0 0, .int .i64 0, .int .i64 0, .int .i64 0, .int .i64 0, .int .i64 0, .int .i64 0, .int .i64 0, .int .i64 0] 39)) (by kernel_rfl) ?_; refine wpList_st_new rfl 39 (.tmp 3) (.tmp 7) rfl w0 #[.int .i64 0, .int .i64 0, .int .i64 0, .int .i64 0, .int .i64 0, .int .i64 0, .int .i64 0, .int .i64 0, .int .i64 0, .int .i64 0, .int .i64 0, .int .i64 0, .slice none 0 0, .slice none 0 0, .int .i64 0, .int .i64 0, .int .i64 0, .int .i64 0, .int .i64 0, .int .i64 0, .int .i64 0, .int .i64 0] #[.int .i64 k, .int .i64 a, .int .i64 b, .int .i64 m, .int .i64 kh, .int .i64 kw, .int .i64 sh, .int .i64 sw, .int .i64 tp, .int .i64 lf, .int .i64 bt, .int .i64 rt, .slice wa lw wc, .slice ba lb bc, .int .i64 sm, .int .i64 ss, .int .i64 um, .int .i64 us, .int .i64 z, .int .i64 p, .int .i64 lo, .int .i64 hi] (by kernel_rfl) (Eq.trans (by kernel_rfl : _ = vo) HVO.out.symm) (by kernel_rfl) rfl (by simp [Value.oneCell']) ?_; (obtain ⟨w1, hw1⟩ : ∃ w1, w0.alloc (.cells #[.int .i64 k, .int .i64 a, .int .i64 b, .int .i64 m, .int .i64 kh, .int .i64 kw, .int .i64 sh, .int .i64 sw, .int .i64 tp, .int .i64 lf, .int .i64 bt, .int .i64 rt, .slice wa lw wc, .slice ba lb bc, .int .i64 sm, .int .i64 ss, .int .i64 um, .int .i64 us, .int .i64 z, .int .i64 p, .int .i64 lo, .int .i64 hi] 39) = w1 := ⟨_, rfl⟩); rw [hw1] at S1 ⊢; clear hw1))
  obtain ⟨c1, f1, z1, -⟩ := S1.out.rules
  go_upto_region 3 with fail
  have s2 := S1.out.seti (i := 1) (v := .int .i64 0) (by simp; have := HZ0.out; omega) #[.int .i64 k, .int .i64 0, .int .i64 b, .int .i64 m, .int .i64 kh, .int .i64 kw, .int .i64 sh, .int .i64 sw, .int .i64 tp, .int .i64 lf, .int .i64 bt, .int .i64 rt, .slice wa lw wc, .slice ba lb bc, .int .i64 sm, .int .i64 ss, .int .i64 um, .int .i64 us, .int .i64 z, .int .i64 p, .int .i64 lo, .int .i64 hi] (by kernel_rfl)
  obtain ⟨w2, hw2⟩ : ∃ w2, w1.setCell ⟨w0.heap.size, 1, none⟩ (.int .i64 0) = w2 := ⟨_, rfl⟩
  rw [hw2] at s2 ⊢
  have S2 : Hid (St W w2 _) := s2
  have hG1 := s2.h1
  have hG2 := s2.h2
  have hG3 := (s2.below.block r hrz).trans HR.out
  clear hw2 S1 c1 f1 s2 HL
  refine regionC (fun w' => w'.heap[r]? = some (.cells #[.int .i64 k, .int .i64 a, .int .i64 b, .int .i64 m, .int .i64 kh, .int .i64 kw, .int .i64 sh, .int .i64 sw, .int .i64 tp, .int .i64 lf, .int .i64 bt, .int .i64 rt, .slice wa lw wc, .slice ba lb bc, .int .i64 sm, .int .i64 ss, .int .i64 um, .int .i64 us, .int .i64 z, .int .i64 p, .int .i64 lo, .int .i64 hi, .int .i64 h, .int .i64 w, .int .i64 c, .int .i64 H, .int .i64 V, .int .i64 C] 76 (0, 0)) ∧ w'.heap[w0.heap.size]? = some (.cells #[.int .i64 k, .int .i64 0, .int .i64 b, .int .i64 m, .int .i64 kh, .int .i64 kw, .int .i64 sh, .int .i64 sw, .int .i64 tp, .int .i64 lf, .int .i64 bt, .int .i64 rt, .slice wa lw wc, .slice ba lb bc, .int .i64 sm, .int .i64 ss, .int .i64 um, .int .i64 us, .int .i64 z, .int .i64 p, .int .i64 lo, .int .i64 hi] 39 (0, 0))) (by kernel_rfl) ?_
  obtain ⟨wd, hwd⟩ : ∃ wd, w2.drew = wd := ⟨_, rfl⟩
  have HD : Hid (wd.heap[r]? = some (.cells #[.int .i64 k, .int .i64 a, .int .i64 b, .int .i64 m, .int .i64 kh, .int .i64 kw, .int .i64 sh, .int .i64 sw, .int .i64 tp, .int .i64 lf, .int .i64 bt, .int .i64 rt, .slice wa lw wc, .slice ba lb bc, .int .i64 sm, .int .i64 ss, .int .i64 um, .int .i64 us, .int .i64 z, .int .i64 p, .int .i64 lo, .int .i64 hi, .int .i64 h, .int .i64 w, .int .i64 c, .int .i64 H, .int .i64 V, .int .i64 C] 76 (0, 0)) ∧ wd.heap[w0.heap.size]? = some (.cells #[.int .i64 k, .int .i64 0, .int .i64 b, .int .i64 m, .int .i64 kh, .int .i64 kw, .int .i64 sh, .int .i64 sw, .int .i64 tp, .int .i64 lf, .int .i64 bt, .int .i64 rt, .slice wa lw wc, .slice ba lb bc, .int .i64 sm, .int .i64 ss, .int .i64 um, .int .i64 us, .int .i64 z, .int .i64 p, .int .i64 lo, .int .i64 hi] 39 (0, 0))) := by unfold Hid; rw [← hwd]; exact ⟨hG3, hG1⟩
  have s3 := S2.out.drew
  rw [hwd] at s3 ⊢
  have S3 : Hid (St W wd _) := s3
  clear hwd S2 hG1 hG2 hG3 s3
  refine takeC 0 (v := .pointer (some ⟨r, 0, none⟩)) rfl rfl (by kernel_rfl) (by kernel_rfl) (by kernel_rfl) (fun _ _ _ h => h) (fun _ => rfl) rfl (fun w' hw' => by go_simp) ?_
  refine takeC 1 (v := .pointer (some ⟨r, 0, none⟩)) rfl rfl (by kernel_rfl) (by kernel_rfl) (by kernel_rfl) (fun _ _ _ h => h) (fun _ => rfl) rfl (fun w' hw' => by go_simp) ?_
  refine takeC 2 (v := .pointer (some ⟨r, 22, none⟩)) rfl rfl (by kernel_rfl) (by kernel_rfl) (by kernel_rfl) (fun _ _ _ h => h) (fun _ => rfl) rfl (fun w' hw' => by go_simp) ?_
  refine takeC 3 (v := .agg #[.int .i64 h, .int .i64 w, .int .i64 c]) rfl rfl (by kernel_rfl) (by kernel_rfl) (by kernel_rfl) (fun _ _ _ h => h) (fun _ => rfl) rfl (fun w' hw' => run_la 23 (.tmp 11) rfl ⟨r, 22, none⟩ (by kernel_rfl) [.int .i64 h, .int .i64 w, .int .i64 c] _ (three_at hw'.1 rfl rfl rfl) Try.underlying23 rfl (by kernel_rfl)) ?_
  refine takeC 4 (v := .agg #[.int .i64 k, .int .i64 0, .int .i64 b, .int .i64 m, .int .i64 kh, .int .i64 kw, .int .i64 sh, .int .i64 sw, .int .i64 tp, .int .i64 lf, .int .i64 bt, .int .i64 rt, .slice wa lw wc, .slice ba lb bc, .int .i64 sm, .int .i64 ss, .int .i64 um, .int .i64 us, .int .i64 z, .int .i64 p, .int .i64 lo, .int .i64 hi]) rfl rfl (by kernel_rfl) (by kernel_rfl) (by kernel_rfl) (fun _ _ _ h => h) (fun _ => rfl) rfl (fun w' hw' => run_la 39 (.tmp 3) rfl ⟨w0.heap.size, 0, none⟩ (by kernel_rfl) [.int .i64 k, .int .i64 0, .int .i64 b, .int .i64 m, .int .i64 kh, .int .i64 kw, .int .i64 sh, .int .i64 sw, .int .i64 tp, .int .i64 lf, .int .i64 bt, .int .i64 rt, .slice wa lw wc, .slice ba lb bc, .int .i64 sm, .int .i64 ss, .int .i64 um, .int .i64 us, .int .i64 z, .int .i64 p, .int .i64 lo, .int .i64 hi] _ (lcells hw'.2 (fget [.int .i64 k, .int .i64 0, .int .i64 b, .int .i64 m, .int .i64 kh, .int .i64 kw, .int .i64 sh, .int .i64 sw, .int .i64 tp, .int .i64 lf, .int .i64 bt, .int .i64 rt, .slice wa lw wc, .slice ba lb bc, .int .i64 sm, .int .i64 ss, .int .i64 um, .int .i64 us, .int .i64 z, .int .i64 p, .int .i64 lo, .int .i64 hi] [])) Try.underlying39 rfl (by kernel_rfl)) ?_
  refine stepR 5 HD.out (by kernel_rfl) rfl rfl (.slice (some ⟨wd.heap.size, 0, none⟩) 1 1) (wd.alloc (.cells #[.int .i64 k, .int .i64 0, .int .i64 b, .int .i64 m, .int .i64 kh, .int .i64 kw, .int .i64 sh, .int .i64 sw, .int .i64 tp, .int .i64 lf, .int .i64 bt, .int .i64 rt, .slice wa lw wc, .slice ba lb bc, .int .i64 sm, .int .i64 ss, .int .i64 um, .int .i64 us, .int .i64 z, .int .i64 p, .int .i64 lo, .int .i64 hi] 39)) (by kernel_rfl) ?_
  have HA : Hid ((wd.alloc (.cells #[.int .i64 k, .int .i64 0, .int .i64 b, .int .i64 m, .int .i64 kh, .int .i64 kw, .int .i64 sh, .int .i64 sw, .int .i64 tp, .int .i64 lf, .int .i64 bt, .int .i64 rt, .slice wa lw wc, .slice ba lb bc, .int .i64 sm, .int .i64 ss, .int .i64 um, .int .i64 us, .int .i64 z, .int .i64 p, .int .i64 lo, .int .i64 hi] 39)).heap[r]? = some (.cells #[.int .i64 k, .int .i64 a, .int .i64 b, .int .i64 m, .int .i64 kh, .int .i64 kw, .int .i64 sh, .int .i64 sw, .int .i64 tp, .int .i64 lf, .int .i64 bt, .int .i64 rt, .slice wa lw wc, .slice ba lb bc, .int .i64 sm, .int .i64 ss, .int .i64 um, .int .i64 us, .int .i64 z, .int .i64 p, .int .i64 lo, .int .i64 hi, .int .i64 h, .int .i64 w, .int .i64 c, .int .i64 H, .int .i64 V, .int .i64 C] 76 (0, 0)) ∧ (wd.alloc (.cells #[.int .i64 k, .int .i64 0, .int .i64 b, .int .i64 m, .int .i64 kh, .int .i64 kw, .int .i64 sh, .int .i64 sw, .int .i64 tp, .int .i64 lf, .int .i64 bt, .int .i64 rt, .slice wa lw wc, .slice ba lb bc, .int .i64 sm, .int .i64 ss, .int .i64 um, .int .i64 us, .int .i64 z, .int .i64 p, .int .i64 lo, .int .i64 hi] 39)).heap[w0.heap.size]? = some (.cells #[.int .i64 k, .int .i64 0, .int .i64 b, .int .i64 m, .int .i64 kh, .int .i64 kw, .int .i64 sh, .int .i64 sw, .int .i64 tp, .int .i64 lf, .int .i64 bt, .int .i64 rt, .slice wa lw wc, .slice ba lb bc, .int .i64 sm, .int .i64 ss, .int .i64 um, .int .i64 us, .int .i64 z, .int .i64 p, .int .i64 lo, .int .i64 hi] 39 (0, 0))) := ⟨(heap_alloc_old wd _ (lt_of_heap HD.out.1)).trans HD.out.1, (heap_alloc_old wd _ (lt_of_heap HD.out.2)).trans HD.out.2⟩
  have s4 := S3.out.new (c := #[.int .i64 k, .int .i64 0, .int .i64 b, .int .i64 m, .int .i64 kh, .int .i64 kw, .int .i64 sh, .int .i64 sw, .int .i64 tp, .int .i64 lf, .int .i64 bt, .int .i64 rt, .slice wa lw wc, .slice ba lb bc, .int .i64 sm, .int .i64 ss, .int .i64 um, .int .i64 us, .int .i64 z, .int .i64 p, .int .i64 lo, .int .i64 hi]) (t := 39)
  have hwz : Hid (W.heap.size ≤ wd.heap.size) := S3.out.size
  obtain ⟨w4, hw4⟩ : ∃ w4, wd.alloc (.cells #[.int .i64 k, .int .i64 0, .int .i64 b, .int .i64 m, .int .i64 kh, .int .i64 kw, .int .i64 sh, .int .i64 sw, .int .i64 tp, .int .i64 lf, .int .i64 bt, .int .i64 rt, .slice wa lw wc, .slice ba lb bc, .int .i64 sm, .int .i64 ss, .int .i64 um, .int .i64 us, .int .i64 z, .int .i64 p, .int .i64 lo, .int .i64 hi] 39) = w4 := ⟨_, rfl⟩
  rw [hw4] at HA s4 ⊢
  have S4 : Hid (St W w4 _) := s4
  clear hw4 s4 S3 HD
  obtain ⟨g, hg⟩ : ∃ g, wd.heap.size = g := ⟨_, rfl⟩
  rw [hg] at S4 hwz ⊢
  clear hg
  refine takeC 6 (v := .agg #[.int .i64 h, .int .i64 w, .int .i64 c, .int .i64 0, .int .i64 0, .slice (some ⟨g, 0, none⟩) 1 1, .int .i64 0]) rfl rfl (by kernel_rfl) (by kernel_rfl) (by kernel_rfl) (fun _ _ _ h => h) (fun _ => rfl) rfl (fun w' hw' => by kernel_rfl) ?_
  have HS3 : Hid (w4.heap[W.heap.size]? = some (.cells #[.int .i64 0, .int .i64 0, .int .i64 0, .int .i64 0, .int .i64 0, .slice none 0 0, .int .i64 0] 26 (0, 0))) := S4.out.h3
  refine stepS 7 HA.out (by kernel_rfl) rfl rfl 26 (.tmp 2) (.tmp 15) rfl W.heap.size #[.int .i64 h, .int .i64 w, .int .i64 c, .int .i64 0, .int .i64 0, .slice (some ⟨g, 0, none⟩) 1 1, .int .i64 0] (by kernel_rfl) (by kernel_rfl) 26 #[.int .i64 0, .int .i64 0, .int .i64 0, .int .i64 0, .int .i64 0, .slice none 0 0, .int .i64 0] HS3.out (by kernel_rfl) rfl (by simp [Value.oneCell']) ?_
  have hZ' := setRow_heap w4 W.heap.size #[.int .i64 0, .int .i64 0, .int .i64 0, .int .i64 0, .int .i64 0, .slice none 0 0, .int .i64 0] #[.int .i64 h, .int .i64 w, .int .i64 c, .int .i64 0, .int .i64 0, .slice (some ⟨g, 0, none⟩) 1 1, .int .i64 0] 26 (0, 0) HS3.out
  have hn1 : g ≠ W.heap.size := fun e => by have h1 := S4.out.h1; rw [e, HS3.out] at h1; simp at h1
  have hn2 : w0.heap.size ≠ W.heap.size := by have := HZ0.out; omega
  have hn3 : r ≠ W.heap.size := by omega
  have hO' : Hid ((w4.setRow W.heap.size #[.int .i64 h, .int .i64 w, .int .i64 c, .int .i64 0, .int .i64 0, .slice (some ⟨g, 0, none⟩) 1 1, .int .i64 0]).heap[g]? = some (.cells #[.int .i64 k, .int .i64 0, .int .i64 b, .int .i64 m, .int .i64 kh, .int .i64 kw, .int .i64 sh, .int .i64 sw, .int .i64 tp, .int .i64 lf, .int .i64 bt, .int .i64 rt, .slice wa lw wc, .slice ba lb bc, .int .i64 sm, .int .i64 ss, .int .i64 um, .int .i64 us, .int .i64 z, .int .i64 p, .int .i64 lo, .int .i64 hi] 39 (0, 0))) := (setRow_other _ _ _ _ hn1).trans S4.out.h1
  have hB' : Hid (Below W.heap.size W (w4.setRow W.heap.size #[.int .i64 h, .int .i64 w, .int .i64 c, .int .i64 0, .int .i64 0, .slice (some ⟨g, 0, none⟩) 1 1, .int .i64 0])) := below_setRow S4.out.below (Nat.le_refl _) #[.int .i64 h, .int .i64 w, .int .i64 c, .int .i64 0, .int .i64 0, .slice (some ⟨g, 0, none⟩) 1 1, .int .i64 0]
  have hC' : (w4.setRow W.heap.size #[.int .i64 h, .int .i64 w, .int .i64 c, .int .i64 0, .int .i64 0, .slice (some ⟨g, 0, none⟩) 1 1, .int .i64 0]).heap[r]? = some (.cells #[.int .i64 k, .int .i64 a, .int .i64 b, .int .i64 m, .int .i64 kh, .int .i64 kw, .int .i64 sh, .int .i64 sw, .int .i64 tp, .int .i64 lf, .int .i64 bt, .int .i64 rt, .slice wa lw wc, .slice ba lb bc, .int .i64 sm, .int .i64 ss, .int .i64 um, .int .i64 us, .int .i64 z, .int .i64 p, .int .i64 lo, .int .i64 hi, .int .i64 h, .int .i64 w, .int .i64 c, .int .i64 H, .int .i64 V, .int .i64 C] 76 (0, 0)) ∧ (w4.setRow W.heap.size #[.int .i64 h, .int .i64 w, .int .i64 c, .int .i64 0, .int .i64 0, .slice (some ⟨g, 0, none⟩) 1 1, .int .i64 0]).heap[w0.heap.size]? = some (.cells #[.int .i64 k, .int .i64 0, .int .i64 b, .int .i64 m, .int .i64 kh, .int .i64 kw, .int .i64 sh, .int .i64 sw, .int .i64 tp, .int .i64 lf, .int .i64 bt, .int .i64 rt, .slice wa lw wc, .slice ba lb bc, .int .i64 sm, .int .i64 ss, .int .i64 um, .int .i64 us, .int .i64 z, .int .i64 p, .int .i64 lo, .int .i64 hi] 39 (0, 0)) := ⟨(setRow_other _ _ _ _ hn3).trans HA.out.1, (setRow_other _ _ _ _ hn2).trans HA.out.2⟩
  obtain ⟨w5, hw5⟩ : ∃ w5, w4.setRow W.heap.size #[.int .i64 h, .int .i64 w, .int .i64 c, .int .i64 0, .int .i64 0, .slice (some ⟨g, 0, none⟩) 1 1, .int .i64 0] = w5 := ⟨_, rfl⟩
  rw [hw5] at hZ' hO' hB' hC' ⊢
  clear hw5 S4 HS3 HA
  refine doneC hC' (by kernel_rfl) ?_ _
  obtain ⟨c1, f1, z5⟩ := cells_at hZ'
  clear hC' hZ'
  go_wp2
  exact bodyPost_ret (v := .agg #[.int .i64 h, .int .i64 w, .int .i64 c, .int .i64 0, .int .i64 0, .slice (some ⟨g, 0, none⟩) 1 1, .int .i64 0]) (by simp [results, Try.results43, go_sem, *]) rfl ⟨g, rfl, hO'.out, hwz.out, hB'.out⟩
end Go.Proofs.Ytdknofbnhjdfjaa

/- What greatestUnder and greatest of package plain return. -/
namespace Go.Proofs.Ytdknofbnhjdfjaa
open Go.ChangeShapes Go.WideShapes Go.ChangeAt Go.RowKit
set_option linter.unusedVariables false
theorem grA_at {w c kw : Int} {xs : List Int} {t u d : Int} {i j : Nat} (hj : (j : Int) < kw) {q N : Nat} (hq : (q : Int) = i * kw + j) (hN : ((t + i) * w + (u + j)) * c + d = (N : Int)) : grA w c kw xs t u d q = xs.getD N 0 := by
  unfold grA
  obtain ⟨e1, e2⟩ := divmod_at (q := i) hj
  rw [hq, e1, e2, hN, Int.toNat_natCast]
theorem w64 {x : Int} (h : -9223372036854775808 ≤ x ∧ x ≤ 9223372036854775807) : IntKind.i64.wrap x = x := by rw [IntKind.wrap_i64]; omega
set_option maxHeartbeats 4000000 in
theorem gunder_any (k a b m kh kw sh sw tp lf bt rt : Int) (wa : Option Addr) (lw wc : Nat) (ba : Option Addr) (lb bc : Nat) (sm ss um us z p lo hi h w c H V C : Int) (r : Nat) (W : World) (hr : W.heap[r]? = some (.cells #[.int .i64 k, .int .i64 a, .int .i64 b, .int .i64 m, .int .i64 kh, .int .i64 kw, .int .i64 sh, .int .i64 sw, .int .i64 tp, .int .i64 lf, .int .i64 bt, .int .i64 rt, .slice wa lw wc, .slice ba lb bc, .int .i64 sm, .int .i64 ss, .int .i64 um, .int .i64 us, .int .i64 z, .int .i64 p, .int .i64 lo, .int .i64 hi, .int .i64 h, .int .i64 w, .int .i64 c, .int .i64 H, .int .i64 V, .int .i64 C] 76 (0, 0))) (ad : Option Addr) (n cap : Nat) (xs : List Int) (hX : IRow .i8 W ad n cap xs) (hn : (n : Int) = h * w * c) (hA : vS h w c = true) (hkh : 1 ≤ kh ∧ kh ≤ 32) (hkw : 1 ≤ kw ∧ kw ≤ 32) (t u d : Int) (ht : 0 ≤ t ∧ t + kh ≤ h) (hu : 0 ≤ u ∧ u + kw ≤ w) (hd : 0 ≤ d ∧ d < c) :
    Calls Try.prog 87 #[.pointer (some ⟨r, 0, none⟩), .slice ad n cap, .int .i64 t, .int .i64 u, .int .i64 d] W fun e w' => e = .returned (.int .i64 (grM w c kw xs t u d (kh * kw).toNat)) ∧ ∃ q, w' = W.drewN q := by
  obtain ⟨c1, f1, z1⟩ := cells_at hr
  obtain ⟨hh, hw, hc, -⟩ := vS_yes hA
  have p3 := vS_bd hA
  obtain ⟨KH, rfl⟩ : ∃ KH : Nat, kh = (KH : Int) := ⟨kh.toNat, by omega⟩
  obtain ⟨KW, rfl⟩ : ∃ KW : Nat, kw = (KW : Int) := ⟨kw.toNat, by omega⟩
  have HX : Hid (IRow .i8 W ad n cap xs) := hX
  have HK : Hid (((KH : Int) * (KW : Int)).toNat = KH * KW) := by unfold Hid; rw [← Int.natCast_mul, Int.toNat_natCast]
  have HN : Hid ((n : Int) = h * w * c) := hn
  have hcap := hX.2.1
  have hcm := hX.2.2.1
  unfold maxLen at hcm
  clear hr hA hX hn
  go_enter Try.func87, Try.ntmps87
  go_wp2
  go_loopw [11, 12] (fun g y wr => ∃ i q : Nat, i ≤ KH ∧ y = .int .i64 (t + i) ∧ g = .int .i64 (grM w c KW xs t u d (i * KW)) ∧ wr = W.drewN q) (fun _ y _ => (t + KH - intOf y).toNat)
  case atStart => exact ⟨0, 0, Nat.zero_le _, by simp, by simp [grM], rfl⟩
  case round =>
    obtain ⟨i, q, hi, rfl, rfl, rfl⟩ := hrel
    by_cases hlt : i < KH
    · obtain ⟨Y, hY⟩ : ∃ Y, t + (i : Int) = Y := ⟨_, rfl⟩
      rw [hY]
      have hY1 : 0 ≤ Y ∧ Y < h ∧ Y < t + KH := by omega
      have HY : Hid (t + (i : Int) = Y) := hY
      clear hY
      go_wp2
      go_loopw [11, 13] (fun g x wr => ∃ j q : Nat, j ≤ KW ∧ x = .int .i64 (u + j) ∧ g = .int .i64 (grM w c KW xs t u d (i * KW + j)) ∧ wr = W.drewN q) (fun _ x _ => (u + KW - intOf x).toNat)
      case atStart => exact ⟨0, q, Nat.zero_le _, by simp, rfl, rfl⟩
      case round =>
        obtain ⟨j, q', hj, rfl, rfl, rfl⟩ := hrel
        by_cases hlt2 : j < KW
        · obtain ⟨X, hX⟩ : ∃ X, u + (j : Int) = X := ⟨_, rfl⟩
          have hX1 : 0 ≤ X ∧ X < w ∧ X < u + KW := by omega
          obtain ⟨r1, r2⟩ := rowbd hY1.2.1 hY1.1 hX1.1 hX1.2.1
          obtain ⟨P1, hP1⟩ : ∃ P1, Y * w = P1 := ⟨_, rfl⟩
          rw [hP1] at r1 r2
          obtain ⟨r3, r4⟩ := rowbd (w := c) r2 (by omega) hd.1 hd.2
          obtain ⟨P2, hP2⟩ : ∃ P2, (P1 + X) * c = P2 := ⟨_, rfl⟩
          rw [hP2] at r3 r4
          obtain ⟨N, hN⟩ : ∃ N : Nat, P2 + d = (N : Int) := ⟨(P2 + d).toNat, by omega⟩
          have hNn : N < n := by have := HN.out; omega
          obtain ⟨x, v, rfl, hv, hw8, hz, -⟩ := HX.out.at hNn
          obtain ⟨v1, v2⟩ := wf_i8 hw8
          have hE : grA w c KW xs t u d (i * KW + j) = v := by
            rw [grA_at (i := i) (j := j) (by omega) (by rw [Int.natCast_add, Int.natCast_mul]) (by rw [HY.out, hX, hP1, hP2, hN]), List.getD_eq_getElem?_getD, hz]; rfl
          have HS : Hid (grM w c KW xs t u d (i * KW + (j + 1)) = mxI (grM w c KW xs t u d (i * KW + j)) v) := by
            unfold Hid
            rw [← Nat.add_assoc, grM, hE]
          have hG := grM_i8 (w := w) (c := c) (kw := KW) HX.out.i8 t u d (i * KW + j)
          obtain ⟨G, hGe⟩ : ∃ G, grM w c KW xs t u d (i * KW + j) = G := ⟨_, rfl⟩
          rw [hGe] at HS hG ⊢
          obtain ⟨g1, g2⟩ := hG
          rw [hX]
          have HXx : Hid (u + (j : Int) = X) := hX
          have hcc : ∀ i, (W.drewN q').cell? ⟨r, i, none⟩ = _ := c1
          have hP1' : P1 ≤ 1048576 := by omega
          have hw1 : IntKind.i64.wrap P1 = P1 := w64 (by omega)
          have hw2 : IntKind.i64.wrap (P1 + X) = P1 + X := w64 (by omega)
          have hw3 : IntKind.i64.wrap P2 = P2 := w64 (by omega)
          have hw4 : IntKind.i64.wrap (N : Int) = N := w64 (by omega)
          clear hE hGe hX hz hw8
          by_cases hlg : G < v
          · have HM : Hid (mxI G v = v) := if_pos hlg
            have hng : ¬ v < G := by omega
            go_wp2
            go_quiet (fail)
            go_wp2
            go_roundw
            case rel => exact ⟨j + 1, _, by omega, by rw [← HXx.out]; go_num, by rw [HS.out, HM.out], rfl⟩
            case measure => simp [intOf]; omega
          · have HM : Hid (mxI G v = G) := if_neg hlg
            go_wp2
            go_quiet (fail)
            go_wp2
            go_roundw
            case rel => exact ⟨j + 1, _, by omega, by rw [← HXx.out]; go_num, by rw [HS.out, HM.out], rfl⟩
            case measure => simp [intOf]; omega
        · obtain rfl : j = KW := by omega
          have hcc : ∀ i, (W.drewN q').cell? ⟨r, i, none⟩ = _ := c1
          go_wp2
          go_roundw
          case rel => exact ⟨i + 1, q', by omega, by rw [← HY.out]; go_num, by rw [Nat.add_mul, Nat.one_mul], rfl⟩
          case measure => simp [intOf]; omega
    · obtain rfl : i = KH := by omega
      have hcc : ∀ i, (W.drewN q).cell? ⟨r, i, none⟩ = _ := c1
      have HE : Hid (grM w c KW xs t u d (i * KW) = grM w c KW xs t u d ((i : Int) * (KW : Int)).toNat) := by unfold Hid; rw [HK.out]
      go_wp2
      go_ret
      exact ⟨ret1 HE.out, q, rfl⟩
end Go.Proofs.Ytdknofbnhjdfjaa

/- What greatest of package plain returns; lists that grow. -/
namespace Go.Proofs.Ytdknofbnhjdfjaa
open Go.ChangeShapes Go.WideShapes Go.ChangeAt Go.RowKit
set_option linter.unusedVariables false
/-! ### Lists that grow -/
/-- 'make' of none, with room. -/
theorem wpList_mk0 {k : IntKind} {T S : TypeId} {by8 : Nat} (kt : KT k T S by8) {w : World} {ops : Array Oper} {rest : List Oper} {o : Oper} {a : Act} {Q : Exit → Act → World → Prop} (hg : o.guard = none) (l c : Operand) (hop : o.op = Op.makeSlice S l c)
    (m : Nat) (M : Int) (hl : a.eval l = .int .i64 0) (hc : a.eval c = .int .i64 M) (hM : M = (m : Int)) (hm : m ≤ 10000000) (base : Nat) (hb : base ≤ w.heap.size)
    (hK : ∀ v w', Own k T w' base v [] → Below w.heap.size w w' → wpList Try.prog ops Q rest (a.put o.dst v) w') : wpList Try.prog ops Q (o :: rest) a w := by
  obtain ⟨hu, hin, b1, b8⟩ := kt
  obtain ⟨i0, hi, hz0, hz1, hz2⟩ := info_parts hin
  subst hM
  have hby : by8 * m ≤ 8 * m := Nat.mul_le_mul_right _ b8
  have hby' : (by8 : Int) * (m : Int) ≤ 281474976710656 := by
    have : ((by8 * m : Nat) : Int) ≤ 281474976710656 := by omega
    rwa [Int.natCast_mul] at this
  refine wpList_plain hg fun K hK' => ?_
  have hr := run_make (P := Try.prog) w S T i0 (.int k 0) hu hi hz0 .i64 .i64 ((0 : Nat) : Int) m (by omega) (by omega) (by rw [hz2]; exact hby') (by omega)
  simp only [Int.toNat_natCast, hz1] at hr
  unfold Oper.wp
  simp only [execOp, hop, hl, hc]
  simp [Result.andThen]
  have hr' := hr
  simp only [Int.natCast_zero] at hr'
  rw [hr']
  refine hK' _ _ (hK _ _ ⟨⟨by simp, .inr ⟨w.heap.size, m, _, rfl, hb, heap_alloc_new w _, Nat.zero_le _, by unfold maxLen; omega, by rw [size_madeCells], by simp⟩⟩, Wf.nil k⟩ (bal _ _))
/-- 'append' of numbers, in a region that draws its order. -/
theorem step_ap {k : IntKind} {T S : TypeId} {by8 : Nat} (kt : KT k T S by8) {w : World} {ops : Array Oper} {o : Oper} {a : Act} {K : Act → World → Prop} {Q : Exit → Act → World → Prop} {E : Prop} (hgd : o.guard = none) (s x : Operand)
    (ho : o.op = .call { callee := .builtin .append, args := #[s, x], argTypes := #[S, S] })
    (base : Nat) (v : Value) (xs ys : List Int) (hs : a.eval s = v) (hown : Own k T w base v xs) (ad : Addr) (m c : Nat) (hx : a.eval x = .slice (some ad) m c) (hy : IRow k w (some ad) m c ys)
    (hlen : xs.length + ys.length ≤ 10000000) (hbase : base ≤ w.heap.size)
    (hK : ∀ v' w', Own k T w' base v' (xs ++ ys) → w.grownBy w' v.ownBlock → K (a.put o.dst v') w') : if Region.wanted o (yielded ops a.tmps) = true then Oper.wp Try.prog o a w K Q else E := by
  have hw : Region.wanted o (yielded ops a.tmps) = true := by simp [Region.wanted, hgd]
  rw [if_pos hw]
  obtain ⟨hu, hin, b1, b8⟩ := kt
  obtain ⟨i0, hi, hz0, hz1, hz2⟩ := info_parts hin
  obtain ⟨hl, hc, hm, hb, hn, hcell⟩ := hy
  have hby : by8 * (xs.length + ys.length) ≤ 8 * (xs.length + ys.length) := Nat.mul_le_mul_right _ b8
  have hby' : (xs.length + m) * by8 ≤ 140737488355328 := by rw [hl] at hby hlen; rw [Nat.mul_comm]; omega
  have hcs : ∀ j u, (ys.map (Value.int k))[j]? = some u → w.cell? (ad.add j) = some u := by
    intro j u hj
    have hj' : j < m := by
      have := (List.getElem?_eq_some_iff.1 hj).1
      simpa [hl] using this
    rw [hcell ad rfl j hj']
    simp [List.getD, show j < ys.length by omega] at hj ⊢
    exact hj
  obtain ⟨v', w', hrun, r1, r2, r3⟩ := run_append_own (P := Try.prog) w base S o.type T i0 (.int k 0) 1 by8 hu hi hz0 hz1 hz2 rfl (by omega) v xs.length _ hown.1 ad m c (ys.map (Value.int k)) (by simp [hl]) hcs (ints_oneCell _ _) (by unfold maxLen; omega) hby' hbase
  unfold Oper.wp
  simp [execOp, ho, resolve, invoke, builtin, hs, hx, hrun, Result.andThen]
  refine hK v' w' ⟨?_, hown.2.app hb⟩ r2
  rw [List.length_append, hl, List.map_append]
  exact r1
theorem gr_idx {VN CN i j d : Nat} (hj : j < VN) (hd : d < CN) : ((((i * VN + j) * CN + d : Nat) : Int) / (CN : Int) / (VN : Int) = i ∧ (((i * VN + j) * CN + d : Nat) : Int) / (CN : Int) % (VN : Int) = j) ∧ (((i * VN + j) * CN + d : Nat) : Int) % (CN : Int) = d := by
  obtain ⟨e1, e2⟩ := divmod_at (C := (CN : Int)) (q := i * VN + j) (d := d) (by omega)
  obtain ⟨e3, e4⟩ := divmod_at (C := (VN : Int)) (q := i) (d := j) (by omega)
  rw [Int.natCast_add, Int.natCast_mul, e1, e2, Int.natCast_add, Int.natCast_mul, e3, e4]
  exact ⟨⟨rfl, rfl⟩, rfl⟩
theorem step_in {i H sh kh h : Int} (hi : 0 ≤ i ∧ i < H) (hs : 1 ≤ sh) (hf : (H - 1) * sh + kh ≤ h) : 0 ≤ i * sh ∧ i * sh + kh ≤ h := by
  have a := Int.mul_le_mul_of_nonneg_right (show i ≤ H - 1 by omega) (show 0 ≤ sh by omega)
  have b := Int.mul_nonneg hi.1 (show 0 ≤ sh by omega)
  omega
set_option maxRecDepth 100000 in
set_option maxHeartbeats 8000000 in
theorem greatest_any (k a b m kh kw sh sw tp lf bt rt : Int) (wa : Option Addr) (lw wc : Nat) (ba : Option Addr) (lb bc : Nat) (sm ss um us z p lo hi h w c H V C : Int) (r : Nat) (W : World) (hr : W.heap[r]? = some (.cells #[.int .i64 k, .int .i64 a, .int .i64 b, .int .i64 m, .int .i64 kh, .int .i64 kw, .int .i64 sh, .int .i64 sw, .int .i64 tp, .int .i64 lf, .int .i64 bt, .int .i64 rt, .slice wa lw wc, .slice ba lb bc, .int .i64 sm, .int .i64 ss, .int .i64 um, .int .i64 us, .int .i64 z, .int .i64 p, .int .i64 lo, .int .i64 hi, .int .i64 h, .int .i64 w, .int .i64 c, .int .i64 H, .int .i64 V, .int .i64 C] 76 (0, 0))) (ad : Option Addr) (n cap : Nat) (xs : List Int) (hX : IRow .i8 W ad n cap xs) (hn : (n : Int) = h * w * c) (hA : vS h w c = true) (hB : vS H V C = true) (hkh : 1 ≤ kh ∧ kh ≤ 32) (hkw : 1 ≤ kw ∧ kw ≤ 32) (hsh : 1 ≤ sh ∧ sh ≤ 32) (hsw : 1 ≤ sw ∧ sw ≤ 32) (hf1 : (H - 1) * sh + kh ≤ h) (hf2 : (V - 1) * sw + kw ≤ w) (hCc : C = c) :
    Calls Try.prog 72 #[.pointer (some ⟨r, 0, none⟩), .slice ad n cap] W fun e w' => (∃ v, e = .returned v ∧ Own .i64 2 w' W.heap.size v (grL kh kw sh sw w c V C xs (H * V * C).toNat)) ∧ Below W.heap.size W w' := by
  have hrz := lt_of_heap hr
  have HR : Hid (W.heap[r]? = some (.cells #[.int .i64 k, .int .i64 a, .int .i64 b, .int .i64 m, .int .i64 kh, .int .i64 kw, .int .i64 sh, .int .i64 sw, .int .i64 tp, .int .i64 lf, .int .i64 bt, .int .i64 rt, .slice wa lw wc, .slice ba lb bc, .int .i64 sm, .int .i64 ss, .int .i64 um, .int .i64 us, .int .i64 z, .int .i64 p, .int .i64 lo, .int .i64 hi, .int .i64 h, .int .i64 w, .int .i64 c, .int .i64 H, .int .i64 V, .int .i64 C] 76 (0, 0))) := hr
  have HX : Hid (IRow .i8 W ad n cap xs) := hX
  have HU : Hid (∀ (w' : World), Below W.heap.size W w' → ∀ t u d : Int, (0 ≤ t ∧ t + kh ≤ h) → (0 ≤ u ∧ u + kw ≤ w) → (0 ≤ d ∧ d < c) → Calls Try.prog 87 #[.pointer (some ⟨r, 0, none⟩), .slice ad n cap, .int .i64 t, .int .i64 u, .int .i64 d] w' fun e w'' => e = .returned (.int .i64 (grM w c kw xs t u d (kh * kw).toNat)) ∧ ∃ q, w'' = w'.drewN q) :=
    fun w' hb t u d ht hu hd => gunder_any k a b m kh kw sh sw tp lf bt rt wa lw wc ba lb bc sm ss um us z p lo hi h w c H V C r w' ((hb.block r hrz).trans hr) ad n cap xs (hX.below hb) hn hA hkh hkw t u d ht hu hd
  have HP : Hid (∀ W, Calls Try.prog 21 #[.agg #[.int .i64 H, .int .i64 V, .int .i64 C]] W fun e w' => e = .returned (.int .i64 (H * V * C)) ∧ Below W.heap.size W w') := fun W => places_plain H V C W hB
  obtain ⟨hh, hw, hc, -⟩ := vS_yes hA
  obtain ⟨hH, hV, hC, -⟩ := vS_yes hB
  subst hCc
  have p3 := (vS_bd hB).2
  obtain ⟨HN, rfl⟩ : ∃ HN : Nat, H = (HN : Int) := ⟨H.toNat, by omega⟩
  obtain ⟨VN, rfl⟩ : ∃ VN : Nat, V = (VN : Int) := ⟨V.toNat, by omega⟩
  obtain ⟨CN, rfl⟩ : ∃ CN : Nat, C = (CN : Int) := ⟨C.toNat, by omega⟩
  obtain ⟨N, hN⟩ : ∃ N : Nat, (HN : Int) * (VN : Int) * (CN : Int) = (N : Int) := ⟨HN * VN * CN, by rw [Int.natCast_mul, Int.natCast_mul]⟩
  have HNN : Hid (HN * VN * CN = N) := by
    have : ((HN * VN * CN : Nat) : Int) = (N : Int) := by rw [Int.natCast_mul, Int.natCast_mul]; exact hN
    unfold Hid; omega
  rw [hN] at HP p3 ⊢
  rw [Int.toNat_natCast]
  obtain ⟨c1, f1, z1⟩ := cells_at hr
  have HG : Hid (∀ q, Wf .i64 (grL kh kw sh sw w CN VN CN xs q)) := fun q v hv => mk_i64 (by have := grL_i8 hX.i8 q v hv; unfold I8 at this; omega)
  clear hr hX hn hA hB hN
  go_enter Try.func72, Try.ntmps72
  go_wp2_with fail
  refine (HP.out _).mono ?_
  rintro e w1 ⟨rfl, hb1⟩
  have Hb1 : Hid (Below W.heap.size W w1) := hb1
  clear hb1 c1 f1
  have hr1 := (Hb1.out.block r hrz).trans HR.out
  obtain ⟨c1, f1, z2⟩ := cells_at hr1
  clear hr1
  go_wp2_with (at_make; (refine wpList_mk0 kt_i64 rfl _ _ rfl N _ rfl rfl rfl (by omega) W.heap.size Hb1.out.size ?_; intro v0 w2 own0 hb2; have Hb2 : Hid (Below W.heap.size W w2) := btr Hb1.out hb2; have Ho0 : Hid (Own .i64 2 w2 W.heap.size v0 []) := own0; have hr2 := (Hb2.out.block r hrz).trans HR.out; clear c1 f1 own0 hb2; obtain ⟨c1, f1, z3⟩ := cells_at hr2; clear hr2))
  go_loopw [5, 20] (fun v i wr => ∃ y : Nat, y ≤ HN ∧ i = .int .i64 y ∧ Own .i64 2 wr W.heap.size v (grL kh kw sh sw w CN VN CN xs (y * VN * CN)) ∧ Below W.heap.size W wr) (fun _ i _ => HN - (intOf i).toNat)
  case atStart => exact ⟨0, Nat.zero_le _, rfl, by simpa [grL] using Ho0.out, Hb2.out⟩
  case round =>
    obtain ⟨y, hy, rfl, hO, hb⟩ := hrel
    clear c1 f1
    obtain ⟨c1, f1, z4⟩ := cells_at ((hb.block r hrz).trans HR.out)
    have HO : Hid (Own .i64 2 wr W.heap.size u5 (grL kh kw sh sw w CN VN CN xs (y * VN * CN))) := hO
    have HBw : Hid (Below W.heap.size W wr) := hb
    clear hO hb Ho0
    by_cases hlt : y < HN
    · go_wp2
      go_loopw [5, 28] (fun v i wr => ∃ (x : Nat) (v0 : Value), v0 = v ∧ x ≤ VN ∧ i = .int .i64 x ∧ Own .i64 2 wr W.heap.size v (grL kh kw sh sw w CN VN CN xs ((y * VN + x) * CN)) ∧ Below W.heap.size W wr) (fun _ i _ => VN - (intOf i).toNat)
      case atStart => exact ⟨0, _, rfl, Nat.zero_le _, rfl, HO.out, HBw.out⟩
      case round =>
        obtain ⟨x, v0, rfl, hx, rfl, hO, hb⟩ := hrel
        clear c1 f1 HO HBw
        obtain ⟨c1, f1, z5⟩ := cells_at ((hb.block r hrz).trans HR.out)
        have HO : Hid (Own .i64 2 wr W.heap.size v0 (grL kh kw sh sw w CN VN CN xs ((y * VN + x) * CN))) := hO
        have HBw : Hid (Below W.heap.size W wr) := hb
        clear hO hb
        by_cases hltx : x < VN
        · go_wp2
          go_loopw [5, 36] (fun v i wr => ∃ (d : Nat) (v1 : Value), v1 = v ∧ d ≤ CN ∧ i = .int .i64 d ∧ Own .i64 2 wr W.heap.size v (grL kh kw sh sw w CN VN CN xs ((y * VN + x) * CN + d)) ∧ Below W.heap.size W wr) (fun _ i _ => CN - (intOf i).toNat)
          case atStart => exact ⟨0, _, rfl, Nat.zero_le _, rfl, HO.out, HBw.out⟩
          case round =>
            obtain ⟨d, v1, rfl, hd, rfl, hO, hb⟩ := hrel
            clear c1 f1 HO HBw
            by_cases hltd : d < CN
            · obtain ⟨t1, t2⟩ := step_in (i := (y : Int)) ⟨by omega, by omega⟩ hsh.1 hf1
              obtain ⟨t3, t4⟩ := step_in (i := (x : Int)) ⟨by omega, by omega⟩ hsw.1 hf2
              have HS := grL_succ kh kw sh sw w (CN : Int) (VN : Int) (CN : Int) xs ((y * VN + x) * CN + d)
              obtain ⟨⟨e1, e2⟩, e3⟩ := gr_idx (i := y) hltx hltd
              rw [e1, e2, e3] at HS
              obtain ⟨T, hT⟩ : ∃ T, (y : Int) * sh = T := ⟨_, rfl⟩
              obtain ⟨U, hU⟩ : ∃ U, (x : Int) * sw = U := ⟨_, rfl⟩
              rw [hT] at t1 t2 HS
              rw [hU] at t3 t4 HS
              have hwT : IntKind.i64.wrap T = T := w64 (by omega)
              have hwU : IntKind.i64.wrap U = U := w64 (by omega)
              have HC : Hid (∀ (w' : World), Below W.heap.size W w' → Calls Try.prog 87 #[.pointer (some ⟨r, 0, none⟩), .slice ad n cap, .int .i64 T, .int .i64 U, .int .i64 (d : Int)] w' fun e w'' => e = .returned (.int .i64 (grM w CN kw xs T U d (kh * kw).toNat)) ∧ ∃ q, w'' = w'.drewN q) := fun w' hb => HU.out w' hb T U d ⟨t1, t2⟩ ⟨t3, t4⟩ ⟨by omega, by omega⟩
              have hg8 := grM_i8 (w := w) (c := (CN : Int)) (kw := kw) HX.out.i8 T U d (kh * kw).toNat
              obtain ⟨G, hG⟩ : ∃ G, grM w (CN : Int) kw xs T U d (kh * kw).toNat = G := ⟨_, rfl⟩
              rw [hG] at HC HS hg8
              have HG8 : Hid (I8 G) := hg8
              have HSS : Hid (grL kh kw sh sw w CN VN CN xs ((y * VN + x) * CN + d + 1) = grL kh kw sh sw w CN VN CN xs ((y * VN + x) * CN + d) ++ [G]) := HS
              have HLn : Hid ((y * VN + x) * CN + d ≤ 16384) := by
                unfold Hid
                have q1 : (y * VN + x + 1) * CN ≤ HN * VN * CN := Nat.mul_le_mul_right _ (by
                  have : (y + 1) * VN ≤ HN * VN := Nat.mul_le_mul_right _ hlt
                  rw [Nat.add_mul] at this; omega)
                rw [HNN.out, Nat.add_mul] at q1
                omega
              have HOd : Hid (Own .i64 2 wr.drew W.heap.size v1 (grL kh kw sh sw w CN VN CN xs ((y * VN + x) * CN + d))) := hO.below (Below.refl _ _).drew
              have HBd : Hid (Below W.heap.size W wr.drew) := btr hb (Below.refl _ _).drew
              obtain ⟨c1, f1, z6⟩ := cells_at ((hb.block r hrz).trans HR.out)
              clear HS hg8 hG hO hb e1 e2 e3 HU
              go_wp2
              go_region_law (first
                | (go_simp; go_at_call 87; refine (HC.out _ HBd.out).mono ?_; rintro e w3 ⟨rfl, q3, hw3⟩; have Hb3 : Hid (Below W.heap.size W w3) := (by rw [hw3]; exact btr HBd.out (dbel _ q3)); have Ho3 : Hid (Own .i64 2 w3 W.heap.size v1 (grL kh kw sh sw w CN VN CN xs ((y * VN + x) * CN + d))) := (by rw [hw3]; exact HOd.out.below (dbel _ q3)); clear hw3)
                | (refine step_ap kt_i64 rfl (.tmp 39) (.tmp 60) rfl W.heap.size v1 (grL kh kw sh sw w CN VN CN xs ((y * VN + x) * CN + d)) [G] rfl (Ho3.out.alloc _) ⟨w3.heap.size, 0, none⟩ 1 1 rfl (row_one .i64 2 w3 G (mk_i64 (by have := HG8.out; unfold I8 at this; omega))) (by rw [grL_len]; have := HLn.out; simp; omega) (by have := Hb3.out.size; simp; omega) ?_; intro v4 w4 own4 gr4; have Hb4 : Hid (Below W.heap.size W w4) := (Ho3.out.alloc (.cells #[.int .i64 G] 2)).bel (btr Hb3.out (bal w3 _)) gr4 (Nat.le_refl _) (by have := Hb3.out.size; simp; omega); have Ho4 : Hid (Own .i64 2 w4 W.heap.size v4 (grL kh kw sh sw w CN VN CN xs ((y * VN + x) * CN + d + 1))) := (by rw [HSS.out]; exact own4); clear own4 gr4))
              all_goals
                clear HSS HC HOd HBd Ho3 Hb3
                go_wp2
                go_roundw
                case rel => exact ⟨d + 1, _, rfl, by omega, by go_num, Ho4.out, Hb4.out⟩
                case measure => simp [intOf]; omega
            · obtain rfl : d = CN := by omega
              have Ho2 : Hid (Own .i64 2 wr W.heap.size v1 (grL kh kw sh sw w d VN d xs ((y * VN + (x + 1)) * d))) := by
                have e : (y * VN + (x + 1)) * d = (y * VN + x) * d + d := by rw [← Nat.add_assoc, Nat.add_mul _ 1, Nat.one_mul]
                unfold Hid
                rw [e]; exact hO
              have Hb2 : Hid (Below W.heap.size W wr) := hb
              clear hO hb
              go_wp2
              go_roundw
              case rel => exact ⟨x + 1, _, rfl, by omega, by go_num, Ho2.out, Hb2.out⟩
              case measure => simp [intOf]; omega
        · obtain rfl : x = VN := by omega
          have Ho2 : Hid (Own .i64 2 wr W.heap.size v0 (grL kh kw sh sw w CN x CN xs ((y + 1) * x * CN))) := by
            have e : (y + 1) * x = y * x + x := by rw [Nat.add_mul, Nat.one_mul]
            unfold Hid
            rw [e]; exact HO.out
          clear HO
          go_wp2
          go_roundw
          case rel => exact ⟨y + 1, by omega, by go_num, Ho2.out, HBw.out⟩
          case measure => simp [intOf]; omega
    · obtain rfl : y = HN := by omega
      have HO2 : Hid (Own .i64 2 wr W.heap.size u5 (grL kh kw sh sw w CN VN CN xs N)) := by rw [← HNN.out]; exact HO.out
      go_wp2
      go_ret
      exact ⟨⟨_, rfl, HO2.out⟩, HBw.out⟩
end Go.Proofs.Ytdknofbnhjdfjaa

/- What sums of package plain returns: all sums of an op that reduces. -/
namespace Go.Proofs.Ytdknofbnhjdfjaa
open Go.ChangeShapes Go.WideShapes Go.ChangeAt Go.RowKit
set_option linter.unusedVariables false
theorem St.ad {w0 w : World} {B : Nat} {c : Array Value} {t : TypeId} {l : List (Nat × Array Value × TypeId)} (h : St w0 w l) (hb : w.heap[B]? = some (.cells c t (0, 0))) (hB : w0.heap.size ≤ B) : St w0 w ((B, c, t) :: l) :=
  ⟨h.1, fun x hx => by
    rcases List.mem_cons.1 hx with rfl | hx
    · exact ⟨hb, hB⟩
    · exact h.2 x hx⟩
/-- An append to a list of another type leaves the listed blocks. -/
theorem St.grow {w0 w w' : World} {k : IntKind} {T : TypeId} {base : Nat} {v : Value} {zs : List Int} {l : List (Nat × Array Value × TypeId)} (h : St w0 w l) (o : Own k T w base v zs) (g : w.grownBy w' v.ownBlock) (hB : w0.heap.size ≤ base) (hT : ∀ x ∈ l, x.2.2 ≠ T) : St w0 w' l :=
  ⟨o.bel h.1 g hB h.1.size, fun x hx => by
    have hx' := h.2 x hx
    refine ⟨?_, hx'.2⟩
    rw [g.block x.1 (lt_of_heap hx'.1) (own_ne o.1 hx'.1 (hT x hx))]
    exact hx'.1⟩
theorem of_alone (k a b m kh kw sh sw tp lf bt rt : Int) (wa : Option Addr) (lw wc : Nat) (ba : Option Addr) (lb bc : Nat) (sm ss um us z p lo hi h w c H V C : Int) (s : Opd k b m kh kw sh sw tp lf bt rt lw lb sm ss um us z p lo hi h w c H V C) (hk : k ≤ 4) (zs bs : List Int) (W : World) (hZ : IRow .i16 W wa lw wc zs) (hB : IRow .i32 W ba lb bc bs) (hlw : lw * 2 ≤ 140737488351232) (hlb : lb * 4 ≤ 140737488351232) (g : Nat) (hg : W.heap[g]? = some (.cells #[.int .i64 k, .int .i64 0, .int .i64 b, .int .i64 m, .int .i64 kh, .int .i64 kw, .int .i64 sh, .int .i64 sw, .int .i64 tp, .int .i64 lf, .int .i64 bt, .int .i64 rt, .slice wa lw wc, .slice ba lb bc, .int .i64 sm, .int .i64 ss, .int .i64 um, .int .i64 us, .int .i64 z, .int .i64 p, .int .i64 lo, .int .i64 hi] 39 (0, 0))) (ch at' : Int) (hch : 1 ≤ ch ∧ ch ≤ C) (hat : 0 ≤ at' ∧ at' < H * V) :
    Calls Try.prog 13 #[.agg #[.int .i64 h, .int .i64 w, .int .i64 c, .int .i64 0, .int .i64 0, .slice (some ⟨g, 0, none⟩) 1 1, .int .i64 0], .int .i64 1, .int .i64 ch, .int .i64 at'] W fun e w' => (∃ v, e = .returned (.tuple #[v, .int .i64 (biA k ch bs), .int .i64 0]) ∧ OTm w' W.heap.size v (siL k kh kw sh sw tp lf bt rt h w c ch at' zs)) ∧ Below W.heap.size W w' := by
  obtain ⟨Rw, hR⟩ := alone_g (a := 0) s hk
  have hcell : ∀ q v, [.int .i64 k, .int .i64 0, .int .i64 b, .int .i64 m, .int .i64 kh, .int .i64 kw, .int .i64 sh, .int .i64 sw, .int .i64 tp, .int .i64 lf, .int .i64 bt, .int .i64 rt, .slice wa lw wc, .slice ba lb bc, .int .i64 sm, .int .i64 ss, .int .i64 um, .int .i64 us, .int .i64 z, .int .i64 p, .int .i64 lo, .int .i64 hi][q]? = some v → W.cell? ((⟨g, 0, none⟩ : Addr).add q) = some v := lcells hg (fget [.int .i64 k, .int .i64 0, .int .i64 b, .int .i64 m, .int .i64 kh, .int .i64 kw, .int .i64 sh, .int .i64 sw, .int .i64 tp, .int .i64 lf, .int .i64 bt, .int .i64 rt, .slice wa lw wc, .slice ba lb bc, .int .i64 sm, .int .i64 ss, .int .i64 um, .int .i64 us, .int .i64 z, .int .i64 p, .int .i64 lo, .int .i64 hi] [])
  have e0 : ((⟨g, 0, none⟩ : Addr).add (0 * 22)) = ⟨g, 0, none⟩ := by rw [Addr.add_lit]
  have hL : LRow W (some ⟨g, 0, none⟩) 1 1 (fun _ => oL k 0 b m kh kw sh sw tp lf bt rt (lw : Int) (lb : Int) sm ss um us z p lo hi) (fun _ => zs) (fun _ => bs) := by
    refine ⟨Nat.le_refl _, by unfold maxLen; omega, (fun h => by cases h), fun x hx i hi => ?_⟩
    cases hx
    obtain rfl : i = 0 := by omega
    rw [e0]
    exact ⟨wa, lw, wc, ba, lb, bc, rfl, rfl, hcell, hZ, hB, hlw, hlb⟩
  have hF : Fnd W (some ⟨g, 0, none⟩) 1 (fun _ => oL k 0 b m kh kw sh sw tp lf bt rt (lw : Int) (lb : Int) sm ss um us z p lo hi) (fun _ => zs) (fun _ => bs) [(h, w, c), (H, V, C)] 0 ⟨g, 0, none⟩ wa lw wc ba lb bc h w c H V C :=
    ⟨by omega, rfl, rfl, rfl, fun q v hq => by rw [e0]; exact hcell q v hq, hZ, hB, rfl, rfl, s.si hk, ⟨Int.le_refl _, Int.le_refl _⟩, decide_eq_true (show 1 ≤ k ∧ k ≤ 4 by have := s.hk; omega)⟩
  exact of_ok h w c 0 0 0 (some ⟨g, 0, none⟩) 1 1 (fun _ => oL k 0 b m kh kw sh sw tp lf bt rt (lw : Int) (lb : Int) sm ss um us z p lo hi) (fun _ => zs) (fun _ => bs) W hL ch at' [(h, w, c), (H, V, C)] Rw hR 0 ⟨g, 0, none⟩ wa lw wc ba lb bc h w c H V C hF hch hat
set_option maxRecDepth 100000 in
set_option maxHeartbeats 8000000 in
theorem sums_any (k a b m kh kw sh sw tp lf bt rt : Int) (wa : Option Addr) (lw wc : Nat) (ba : Option Addr) (lb bc : Nat) (sm ss um us z p lo hi h w c H V C : Int) (r : Nat) (W : World) (hr : W.heap[r]? = some (.cells #[.int .i64 k, .int .i64 a, .int .i64 b, .int .i64 m, .int .i64 kh, .int .i64 kw, .int .i64 sh, .int .i64 sw, .int .i64 tp, .int .i64 lf, .int .i64 bt, .int .i64 rt, .slice wa lw wc, .slice ba lb bc, .int .i64 sm, .int .i64 ss, .int .i64 um, .int .i64 us, .int .i64 z, .int .i64 p, .int .i64 lo, .int .i64 hi, .int .i64 h, .int .i64 w, .int .i64 c, .int .i64 H, .int .i64 V, .int .i64 C] 76 (0, 0))) (s : Opd k b m kh kw sh sw tp lf bt rt lw lb sm ss um us z p lo hi h w c H V C) (hk : k ≤ 4) (zs bs : List Int) (hZ : IRow .i16 W wa lw wc zs) (hB : IRow .i32 W ba lb bc bs) (hlw : lw * 2 ≤ 140737488351232) (hlb : lb * 4 ≤ 140737488351232) (ad : Option Addr) (n cap : Nat) (xs : List Int) (hX : IRow .i8 W ad n cap xs) (hn : (n : Int) = h * w * c) :
    Calls Try.prog 22 #[.pointer (some ⟨r, 0, none⟩), .slice ad n cap] W fun e w' => (∃ v, e = .returned v ∧ Own .i64 2 w' W.heap.size v (suL k kh kw sh sw tp lf bt rt h w c C p zs bs xs (H * V * C).toNat)) ∧ Below W.heap.size W w' := by
  have hrz := lt_of_heap hr
  have hp8 : I8 p := by have := s.rz; unfold rzB vlB at this; simp at this; exact ⟨this.2.1, this.2.2⟩
  have HR : Hid (W.heap[r]? = some (.cells #[.int .i64 k, .int .i64 a, .int .i64 b, .int .i64 m, .int .i64 kh, .int .i64 kw, .int .i64 sh, .int .i64 sw, .int .i64 tp, .int .i64 lf, .int .i64 bt, .int .i64 rt, .slice wa lw wc, .slice ba lb bc, .int .i64 sm, .int .i64 ss, .int .i64 um, .int .i64 us, .int .i64 z, .int .i64 p, .int .i64 lo, .int .i64 hi, .int .i64 h, .int .i64 w, .int .i64 c, .int .i64 H, .int .i64 V, .int .i64 C] 76 (0, 0))) := hr
  have HAl : Hid (Calls Try.prog 43 #[.pointer (some ⟨r, 0, none⟩)] W _) := alone_any k a b m kh kw sh sw tp lf bt rt wa lw wc ba lb bc sm ss um us z p lo hi h w c H V C r W hr
  have HP : Hid (∀ W, Calls Try.prog 21 #[.agg #[.int .i64 H, .int .i64 V, .int .i64 C]] W fun e w' => e = .returned (.int .i64 (H * V * C)) ∧ Below W.heap.size W w') := fun W => places_plain H V C W s.hB
  have HOf : Hid (∀ (w' : World) (g : Nat), Below W.heap.size W w' → w'.heap[g]? = some (.cells #[.int .i64 k, .int .i64 0, .int .i64 b, .int .i64 m, .int .i64 kh, .int .i64 kw, .int .i64 sh, .int .i64 sw, .int .i64 tp, .int .i64 lf, .int .i64 bt, .int .i64 rt, .slice wa lw wc, .slice ba lb bc, .int .i64 sm, .int .i64 ss, .int .i64 um, .int .i64 us, .int .i64 z, .int .i64 p, .int .i64 lo, .int .i64 hi] 39 (0, 0)) → ∀ ch at' : Int, (1 ≤ ch ∧ ch ≤ C) → (0 ≤ at' ∧ at' < H * V) → Calls Try.prog 13 #[.agg #[.int .i64 h, .int .i64 w, .int .i64 c, .int .i64 0, .int .i64 0, .slice (some ⟨g, 0, none⟩) 1 1, .int .i64 0], .int .i64 1, .int .i64 ch, .int .i64 at'] w' fun e w'' => (∃ v, e = .returned (.tuple #[v, .int .i64 (biA k ch bs), .int .i64 0]) ∧ OTm w'' w'.heap.size v (siL k kh kw sh sw tp lf bt rt h w c ch at' zs)) ∧ Below w'.heap.size w' w'') :=
    fun w' g hb hg ch at' hch hat => of_alone k a b m kh kw sh sw tp lf bt rt wa lw wc ba lb bc sm ss um us z p lo hi h w c H V C s hk zs bs w' (hZ.below hb) (hB.below hb) hlw hlb g hg ch at' hch hat
  have HSm : Hid (∀ (w' : World), Below W.heap.size W w' → ∀ (v : Value) (ch at' : Int), (1 ≤ ch ∧ ch ≤ C) → TV w' v (siL k kh kw sh sw tp lf bt rt h w c ch at' zs) → Calls Try.prog 44 #[.pointer (some ⟨r, 0, none⟩), v, .slice ad n cap] w' fun e w'' => e = .returned (.int .i64 (smV p xs (siL k kh kw sh sw tp lf bt rt h w c ch at' zs))) ∧ Below w'.heap.size w' w'') :=
    fun w' hb v ch at' hch hT => by
      obtain ⟨f1, f2⟩ := siL_facts (s.si hk) hZ.2.2.2.1 hch at'
      rw [← hn] at f2
      exact sum_any k a b m kh kw sh sw tp lf bt rt wa lw wc ba lb bc sm ss um us z p lo hi h w c H V C r w' ((hb.block r hrz).trans hr) v _ hT ad n cap xs (hX.below hb) hp8 f1 f2
  have HSb : Hid (∀ ch at' : Int, (1 ≤ ch ∧ ch ≤ C) → (-4294967296 ≤ suA k kh kw sh sw tp lf bt rt h w c p zs bs xs ch at' ∧ suA k kh kw sh sw tp lf bt rt h w c p zs bs xs ch at' ≤ 4294967296) ∧ suA k kh kw sh sw tp lf bt rt h w c p zs bs xs ch at' = biA k ch bs + smV p xs (siL k kh kw sh sw tp lf bt rt h w c ch at' zs)) := fun ch at' hch => ⟨suA_bd (s.si hk) hZ.2.2.2.1 hB.2.2.2.1 hp8 hX.i8 hch at', rfl⟩
  obtain ⟨hH, hV, hC, -⟩ := vS_yes s.hB
  have p3 := vS_bd s.hB
  clear hr hZ hB hX hn s hlw hlb hp8
  obtain ⟨CN, rfl⟩ : ∃ CN : Nat, C = (CN : Int) := ⟨C.toNat, by omega⟩
  obtain ⟨P, hP⟩ : ∃ P : Nat, H * V = (P : Int) := ⟨(H * V).toNat, by omega⟩
  rw [hP] at HP HOf p3 ⊢
  obtain ⟨N, hN⟩ : ∃ N : Nat, (P : Int) * (CN : Int) = (N : Int) := ⟨P * CN, by rw [Int.natCast_mul]⟩
  have HNN : Hid (P * CN = N) := by
    have : ((P * CN : Nat) : Int) = (N : Int) := by rw [Int.natCast_mul]; exact hN
    unfold Hid; omega
  rw [hN] at HP p3 ⊢
  rw [Int.toNat_natCast]
  clear hN
  obtain ⟨c1, f1, z1⟩ := cells_at HR.out
  go_enter Try.func22, Try.ntmps22
  go_wp2_with fail
  refine HAl.out.mono ?_
  rintro e w1 ⟨g, rfl, hgc, hgb, hb1⟩
  obtain ⟨mb, hmb⟩ : ∃ mb, w1.heap.size = mb := ⟨_, rfl⟩
  have s1 := (((St.start W).call hb1).ad hgc hgb).new (c := #[.int .i64 h, .int .i64 w, .int .i64 c, .int .i64 0, .int .i64 0, .slice (some ⟨g, 0, none⟩) 1 1, .int .i64 0]) (t := 26)
  clear hb1 hgc c1 f1 HAl
  obtain ⟨c2, f2, z2⟩ := cells_at ((s1.below.block r hrz).trans HR.out)
  go_wp2_with fail
  rw [hmb] at s1
  clear hmb
  refine (HP.out _).mono ?_
  rintro e w2 ⟨rfl, hb2⟩
  have S2 : Hid (St W w2 [(mb, #[.int .i64 h, .int .i64 w, .int .i64 c, .int .i64 0, .int .i64 0, .slice (some ⟨g, 0, none⟩) 1 1, .int .i64 0], 26), (g, #[.int .i64 k, .int .i64 0, .int .i64 b, .int .i64 m, .int .i64 kh, .int .i64 kw, .int .i64 sh, .int .i64 sw, .int .i64 tp, .int .i64 lf, .int .i64 bt, .int .i64 rt, .slice wa lw wc, .slice ba lb bc, .int .i64 sm, .int .i64 ss, .int .i64 um, .int .i64 us, .int .i64 z, .int .i64 p, .int .i64 lo, .int .i64 hi], 39)]) := s1.call hb2
  clear s1 hb2 c2 f2 z2 HP
  go_wp2_with (at_make; refine wpList_mk0 kt_i64 rfl _ _ rfl N _ rfl rfl rfl (by omega) W.heap.size S2.out.size ?_; intro v0 w3 own0 hb3; have S3 : Hid (St W w3 [(mb, #[.int .i64 h, .int .i64 w, .int .i64 c, .int .i64 0, .int .i64 0, .slice (some ⟨g, 0, none⟩) 1 1, .int .i64 0], 26), (g, #[.int .i64 k, .int .i64 0, .int .i64 b, .int .i64 m, .int .i64 kh, .int .i64 kw, .int .i64 sh, .int .i64 sw, .int .i64 tp, .int .i64 lf, .int .i64 bt, .int .i64 rt, .slice wa lw wc, .slice ba lb bc, .int .i64 sm, .int .i64 ss, .int .i64 um, .int .i64 us, .int .i64 z, .int .i64 p, .int .i64 lo, .int .i64 hi], 39)]) := S2.out.call hb3; have Ho0 : Hid (Own .i64 2 w3 W.heap.size v0 []) := own0; clear own0 hb3 S2; obtain ⟨c1, f1, z1'⟩ := cells_at ((S3.out.below.block r hrz).trans HR.out))
  go_quiet (fail)
  have S4 : Hid (St W (w3.drewN nq) [(mb, #[.int .i64 h, .int .i64 w, .int .i64 c, .int .i64 0, .int .i64 0, .slice (some ⟨g, 0, none⟩) 1 1, .int .i64 0], 26), (g, #[.int .i64 k, .int .i64 0, .int .i64 b, .int .i64 m, .int .i64 kh, .int .i64 kw, .int .i64 sh, .int .i64 sw, .int .i64 tp, .int .i64 lf, .int .i64 bt, .int .i64 rt, .slice wa lw wc, .slice ba lb bc, .int .i64 sm, .int .i64 ss, .int .i64 um, .int .i64 us, .int .i64 z, .int .i64 p, .int .i64 lo, .int .i64 hi], 39)]) := S3.out.call (dbel _ _)
  have Ho4 : Hid (Own .i64 2 (w3.drewN nq) W.heap.size v0 []) := Ho0.out.below (dbel _ _)
  obtain ⟨w4, hw4⟩ : ∃ w4, w3.drewN nq = w4 := ⟨_, rfl⟩
  rw [hw4] at S4 Ho4 ⊢
  clear hw4 S3 Ho0 c1 f1
  go_wp2
  go_loopw [6, 31] (fun v i wr => ∃ (y : Nat) (v1 : Value), v1 = v ∧ y ≤ P ∧ i = .int .i64 y ∧ Own .i64 2 wr W.heap.size v (suL k kh kw sh sw tp lf bt rt h w c CN p zs bs xs (y * CN)) ∧ St W wr [(mb, #[.int .i64 h, .int .i64 w, .int .i64 c, .int .i64 0, .int .i64 0, .slice (some ⟨g, 0, none⟩) 1 1, .int .i64 0], 26), (g, #[.int .i64 k, .int .i64 0, .int .i64 b, .int .i64 m, .int .i64 kh, .int .i64 kw, .int .i64 sh, .int .i64 sw, .int .i64 tp, .int .i64 lf, .int .i64 bt, .int .i64 rt, .slice wa lw wc, .slice ba lb bc, .int .i64 sm, .int .i64 ss, .int .i64 um, .int .i64 us, .int .i64 z, .int .i64 p, .int .i64 lo, .int .i64 hi], 39)]) (fun _ i _ => P - (intOf i).toNat)
  case atStart => exact ⟨0, _, rfl, Nat.zero_le _, rfl, by simpa [suL] using Ho4.out, S4.out⟩
  case round =>
    obtain ⟨y, v1, rfl, hy, rfl, hO, sr⟩ := hrel
    clear S4 Ho4
    obtain ⟨c1, f1, z4⟩ := cells_at ((sr.below.block r hrz).trans HR.out)
    have HO : Hid (Own .i64 2 wr W.heap.size v1 (suL k kh kw sh sw tp lf bt rt h w c CN p zs bs xs (y * CN))) := hO
    have SR : Hid (St W wr [(mb, #[.int .i64 h, .int .i64 w, .int .i64 c, .int .i64 0, .int .i64 0, .slice (some ⟨g, 0, none⟩) 1 1, .int .i64 0], 26), (g, #[.int .i64 k, .int .i64 0, .int .i64 b, .int .i64 m, .int .i64 kh, .int .i64 kw, .int .i64 sh, .int .i64 sw, .int .i64 tp, .int .i64 lf, .int .i64 bt, .int .i64 rt, .slice wa lw wc, .slice ba lb bc, .int .i64 sm, .int .i64 ss, .int .i64 um, .int .i64 us, .int .i64 z, .int .i64 p, .int .i64 lo, .int .i64 hi], 39)]) := sr
    clear hO sr
    by_cases hlt : y < P
    · go_wp2
      go_loopw [6, 8] (fun v i wr => ∃ (d : Nat) (v2 : Value), v2 = v ∧ d ≤ CN ∧ i = .int .i64 ((d : Int) + 1) ∧ Own .i64 2 wr W.heap.size v (suL k kh kw sh sw tp lf bt rt h w c CN p zs bs xs (y * CN + d)) ∧ St W wr [(mb, #[.int .i64 h, .int .i64 w, .int .i64 c, .int .i64 0, .int .i64 0, .slice (some ⟨g, 0, none⟩) 1 1, .int .i64 0], 26), (g, #[.int .i64 k, .int .i64 0, .int .i64 b, .int .i64 m, .int .i64 kh, .int .i64 kw, .int .i64 sh, .int .i64 sw, .int .i64 tp, .int .i64 lf, .int .i64 bt, .int .i64 rt, .slice wa lw wc, .slice ba lb bc, .int .i64 sm, .int .i64 ss, .int .i64 um, .int .i64 us, .int .i64 z, .int .i64 p, .int .i64 lo, .int .i64 hi], 39)]) (fun _ i _ => CN + 1 - (intOf i).toNat)
      case atStart => exact ⟨0, _, rfl, Nat.zero_le _, rfl, HO.out, SR.out⟩
      case round =>
        obtain ⟨d, v2, rfl, hd, rfl, hO, sr⟩ := hrel
        clear c1 f1 HO SR
        obtain ⟨c1, f1, z5⟩ := cells_at ((sr.below.block r hrz).trans HR.out)
        have HO : Hid (Own .i64 2 wr W.heap.size v2 (suL k kh kw sh sw tp lf bt rt h w c CN p zs bs xs (y * CN + d))) := hO
        have SR : Hid (St W wr [(mb, #[.int .i64 h, .int .i64 w, .int .i64 c, .int .i64 0, .int .i64 0, .slice (some ⟨g, 0, none⟩) 1 1, .int .i64 0], 26), (g, #[.int .i64 k, .int .i64 0, .int .i64 b, .int .i64 m, .int .i64 kh, .int .i64 kw, .int .i64 sh, .int .i64 sw, .int .i64 tp, .int .i64 lf, .int .i64 bt, .int .i64 rt, .slice wa lw wc, .slice ba lb bc, .int .i64 sm, .int .i64 ss, .int .i64 um, .int .i64 us, .int .i64 z, .int .i64 p, .int .i64 lo, .int .i64 hi], 39)]) := sr
        obtain ⟨c2, f2, z6, -⟩ := sr.rules
        clear hO sr
        by_cases hltd : d < CN
        · have hch : 1 ≤ (d : Int) + 1 ∧ (d : Int) + 1 ≤ (CN : Int) := by omega
          have HS := suL_succ k kh kw sh sw tp lf bt rt h w c (CN : Int) p zs bs xs (y * CN + d)
          obtain ⟨e1, e2⟩ := divmod_at (C := (CN : Int)) (q := y) (d := d) (by omega)
          rw [Int.natCast_add, Int.natCast_mul, e1, e2] at HS
          obtain ⟨⟨b1, b2⟩, hsu⟩ := HSb.out ((d : Int) + 1) (y : Int) hch
          have HC1 : Hid (∀ (w' : World), Below W.heap.size W w' → w'.heap[g]? = some (.cells #[.int .i64 k, .int .i64 0, .int .i64 b, .int .i64 m, .int .i64 kh, .int .i64 kw, .int .i64 sh, .int .i64 sw, .int .i64 tp, .int .i64 lf, .int .i64 bt, .int .i64 rt, .slice wa lw wc, .slice ba lb bc, .int .i64 sm, .int .i64 ss, .int .i64 um, .int .i64 us, .int .i64 z, .int .i64 p, .int .i64 lo, .int .i64 hi] 39 (0, 0)) → _) := fun w' hb hg => HOf.out w' g hb hg ((d : Int) + 1) y hch ⟨by omega, by omega⟩
          have HC2 : Hid (∀ (w' : World), Below W.heap.size W w' → ∀ v, TV w' v _ → _) := fun w' hb v hT => HSm.out w' hb v ((d : Int) + 1) y hch hT
          obtain ⟨TL, hTL⟩ : ∃ TL, siL k kh kw sh sw tp lf bt rt h w c ((d : Int) + 1) (y : Int) zs = TL := ⟨_, rfl⟩
          obtain ⟨bi, hbi⟩ : ∃ bi, biA k ((d : Int) + 1) bs = bi := ⟨_, rfl⟩
          obtain ⟨sv, hsv⟩ : ∃ sv, smV p xs TL = sv := ⟨_, rfl⟩
          rw [hTL] at HC1 HC2 hsu
          rw [hsv] at HC2 hsu
          rw [hbi] at HC1 hsu
          rw [hsu] at b1 b2 HS
          have HSS : Hid (suL k kh kw sh sw tp lf bt rt h w c CN p zs bs xs (y * CN + d + 1) = suL k kh kw sh sw tp lf bt rt h w c CN p zs bs xs (y * CN + d) ++ [bi + sv]) := HS
          have HLn : Hid (y * CN + d ≤ 16384) := by
            unfold Hid
            have q1 : (y + 1) * CN ≤ P * CN := Nat.mul_le_mul_right _ hlt
            rw [HNN.out, Nat.add_mul] at q1
            omega
          clear HS e1 e2 hsu hTL hbi hsv
          obtain ⟨D, hD⟩ : ∃ D : Int, (d : Int) + 1 = D := ⟨_, rfl⟩
          rw [hD] at HC1 hch ⊢
          have HD : Hid ((d : Int) + 1 = D) := hD
          clear hD
          go_wp2_with fail
          refine (HC1.out _ SR.out.below SR.out.h2).mono ?_
          rintro e w5 ⟨⟨v, rfl, hOT⟩, hb5⟩
          obtain ⟨va, vc, rfl⟩ := hOT.slice
          have HT5 : Hid (TV w5 (.slice va TL.length vc) TL) := hOT.tv
          have S5 : Hid (St W w5 [(mb, #[.int .i64 h, .int .i64 w, .int .i64 c, .int .i64 0, .int .i64 0, .slice (some ⟨g, 0, none⟩) 1 1, .int .i64 0], 26), (g, #[.int .i64 k, .int .i64 0, .int .i64 b, .int .i64 m, .int .i64 kh, .int .i64 kw, .int .i64 sh, .int .i64 sw, .int .i64 tp, .int .i64 lf, .int .i64 bt, .int .i64 rt, .slice wa lw wc, .slice ba lb bc, .int .i64 sm, .int .i64 ss, .int .i64 um, .int .i64 us, .int .i64 z, .int .i64 p, .int .i64 lo, .int .i64 hi], 39)]) := SR.out.call hb5
          have O5 : Hid (Own .i64 2 w5 W.heap.size v2 (suL k kh kw sh sw tp lf bt rt h w c CN p zs bs xs (y * CN + d))) := HO.out.below hb5
          obtain ⟨tl, htl⟩ : ∃ tl, TL.length = tl := ⟨_, rfl⟩
          rw [htl] at HT5 ⊢
          clear hOT hb5 HO SR htl c1 f1 c2 f2
          go_wp2_with fail
          refine (HC2.out _ S5.out.below _ HT5.out).mono ?_
          rintro e w6 ⟨rfl, hb6⟩
          have S6 : Hid (St W w6 [(mb, #[.int .i64 h, .int .i64 w, .int .i64 c, .int .i64 0, .int .i64 0, .slice (some ⟨g, 0, none⟩) 1 1, .int .i64 0], 26), (g, #[.int .i64 k, .int .i64 0, .int .i64 b, .int .i64 m, .int .i64 kh, .int .i64 kw, .int .i64 sh, .int .i64 sw, .int .i64 tp, .int .i64 lf, .int .i64 bt, .int .i64 rt, .slice wa lw wc, .slice ba lb bc, .int .i64 sm, .int .i64 ss, .int .i64 um, .int .i64 us, .int .i64 z, .int .i64 p, .int .i64 lo, .int .i64 hi], 39)]) := S5.out.call hb6
          have O6 : Hid (Own .i64 2 w6 W.heap.size v2 (suL k kh kw sh sw tp lf bt rt h w c CN p zs bs xs (y * CN + d))) := O5.out.below hb6
          clear hb6 S5 O5 HC1 HC2
          go_wp2_with (at_builtin; refine wpList_app kt_i64 rfl (.tmp 51) (.tmp 58) rfl W.heap.size v2 (suL k kh kw sh sw tp lf bt rt h w c CN p zs bs xs (y * CN + d)) [bi + sv] rfl (O6.out.alloc _) _ _ _ rfl (row_one .i64 2 w6 (bi + sv) (mk_i64 (by omega))) (by rw [suL_len]; have := HLn.out; simp; omega) (by have := S6.out.size; simp; omega) ?_; intro v7 w7 own7 gr7 nn7; have S7 : Hid (St W w7 [(mb, #[.int .i64 h, .int .i64 w, .int .i64 c, .int .i64 0, .int .i64 0, .slice (some ⟨g, 0, none⟩) 1 1, .int .i64 0], 26), (g, #[.int .i64 k, .int .i64 0, .int .i64 b, .int .i64 m, .int .i64 kh, .int .i64 kw, .int .i64 sh, .int .i64 sw, .int .i64 tp, .int .i64 lf, .int .i64 bt, .int .i64 rt, .slice wa lw wc, .slice ba lb bc, .int .i64 sm, .int .i64 ss, .int .i64 um, .int .i64 us, .int .i64 z, .int .i64 p, .int .i64 lo, .int .i64 hi], 39)]) := (S6.out.skip (.cells #[.int .i64 (bi + sv)] 2)).grow (O6.out.alloc _) gr7 (Nat.le_refl _) (by simp); have O7 : Hid (Own .i64 2 w7 W.heap.size v7 (suL k kh kw sh sw tp lf bt rt h w c CN p zs bs xs (y * CN + d + 1))) := (by rw [HSS.out]; exact own7); clear own7 gr7 nn7 S6 O6)
          go_roundw
          case rel => exact ⟨d + 1, _, rfl, by omega, by rw [← HD.out]; go_num, O7.out, S7.out⟩
          case measure => have := HD.out; simp [intOf]; omega
        · obtain rfl : d = CN := by omega
          have Ho2 : Hid (Own .i64 2 wr W.heap.size v2 (suL k kh kw sh sw tp lf bt rt h w c d p zs bs xs ((y + 1) * d))) := by
            have e : (y + 1) * d = y * d + d := by rw [Nat.add_mul, Nat.one_mul]
            unfold Hid
            rw [e]; exact HO.out
          clear HO
          go_wp2
          go_roundw
          case rel => exact ⟨y + 1, _, rfl, by omega, by go_num, Ho2.out, SR.out⟩
          case measure => simp [intOf]; omega
    · obtain rfl : y = P := by omega
      have HO2 : Hid (Own .i64 2 wr W.heap.size v1 (suL k kh kw sh sw tp lf bt rt h w c CN p zs bs xs N)) := by rw [← HNN.out]; exact HO.out
      go_wp2
      go_ret
      exact ⟨⟨_, rfl, HO2.out⟩, SR.out.below⟩
end Go.Proofs.Ytdknofbnhjdfjaa

/- What values and tensor of package plain return. -/
namespace Go.Proofs.Ytdknofbnhjdfjaa
open Go.ChangeShapes Go.WideShapes Go.ChangeAt Go.RowKit
set_option linter.unusedVariables false
theorem two_at {w : World} {g n : Nat} {cur : Array Value} {T : TypeId} {x y : Value} (h : w.heap[g]? = some (.cells cur T (0, 0))) (h0 : cur[n]? = some x) (h1 : cur[n + 1]? = some y) : ∀ q v, [x, y][q]? = some v → w.cell? ((⟨g, n, none⟩ : Addr).add q) = some v := by
  intro q v hq
  rw [Addr.add_lit, (cells_at h).1]
  match q, hq with
  | 0, hq => rw [Nat.add_zero, h0]; exact hq
  | 1, hq => rw [h1]; exact hq
  | q + 2, hq => simp at hq
/-! ### Sums, scaled -/
set_option maxRecDepth 100000 in
set_option maxHeartbeats 4000000 in
theorem values_s (k a b m kh kw sh sw tp lf bt rt : Int) (wa : Option Addr) (lw wc : Nat) (ba : Option Addr) (lb bc : Nat) (sm ss um us z p lo hi h w c H V C : Int) (r : Nat) (W : World) (hr : W.heap[r]? = some (.cells #[.int .i64 k, .int .i64 a, .int .i64 b, .int .i64 m, .int .i64 kh, .int .i64 kw, .int .i64 sh, .int .i64 sw, .int .i64 tp, .int .i64 lf, .int .i64 bt, .int .i64 rt, .slice wa lw wc, .slice ba lb bc, .int .i64 sm, .int .i64 ss, .int .i64 um, .int .i64 us, .int .i64 z, .int .i64 p, .int .i64 lo, .int .i64 hi, .int .i64 h, .int .i64 w, .int .i64 c, .int .i64 H, .int .i64 V, .int .i64 C] 76 (0, 0))) (hk : 1 ≤ k ∧ k ≤ 3) (ad : Option Addr) (n cap : Nat) (bd : Option Addr) (nb capb : Nat) (SS : List Int) (hS : Hid (∀ (w' : World), Below W.heap.size W w' → Calls Try.prog 22 #[.pointer (some ⟨r, 0, none⟩), .slice ad n cap] w' fun e w'' => (∃ v, e = .returned v ∧ Own .i64 2 w'' w'.heap.size v SS) ∧ Below w'.heap.size w' w'')) (hl : SS.length ≤ 1000000) (hbd : ∀ v ∈ SS, -4294967296 ≤ v ∧ v ≤ 4294967296) :
    Calls Try.prog 52 #[.pointer (some ⟨r, 0, none⟩), .slice ad n cap, .slice bd nb capb] W fun e w' => (∃ v, e = .returned v ∧ Own .i64 2 w' W.heap.size v (apL SS sm ss)) ∧ Below W.heap.size W w' := by
  have hrz := lt_of_heap hr
  obtain ⟨c1, f1, z1⟩ := cells_at hr
  have HR : Hid (W.heap[r]? = some (.cells #[.int .i64 k, .int .i64 a, .int .i64 b, .int .i64 m, .int .i64 kh, .int .i64 kw, .int .i64 sh, .int .i64 sw, .int .i64 tp, .int .i64 lf, .int .i64 bt, .int .i64 rt, .slice wa lw wc, .slice ba lb bc, .int .i64 sm, .int .i64 ss, .int .i64 um, .int .i64 us, .int .i64 z, .int .i64 p, .int .i64 lo, .int .i64 hi, .int .i64 h, .int .i64 w, .int .i64 c, .int .i64 H, .int .i64 V, .int .i64 C] 76 (0, 0))) := hr
  have HB : Hid (∀ v ∈ SS, -4294967296 ≤ v ∧ v ≤ 4294967296) := hbd
  have HL : Hid (SS.length ≤ 1000000) := hl
  clear hr hbd hl
  rcases (show k = 1 ∨ k = 2 ∨ k = 3 by omega) with rfl | rfl | rfl
  all_goals
    clear hk
    go_enter Try.func52, Try.ntmps52
    go_wp2
    refine regionC (fun w' => Below W.heap.size W w') (by kernel_rfl) ?_
    obtain ⟨wd, hwd⟩ : ∃ wd, W.drew = wd := ⟨_, rfl⟩
    have HD : Hid (Below W.heap.size W wd) := by unfold Hid; rw [← hwd]; exact (Below.refl _ _).drew
    rw [hwd]
    clear hwd c1 f1
    refine takeC 0 (v := .pointer (some ⟨r, 0, none⟩)) rfl rfl (by kernel_rfl) (by kernel_rfl) (by kernel_rfl) (fun _ _ _ h => h) (fun _ => rfl) rfl (fun w' hw' => by go_simp) ?_
    refine takeC 1 (v := .slice ad n cap) rfl rfl (by kernel_rfl) (by kernel_rfl) (by kernel_rfl) (fun _ _ _ h => h) (fun _ => rfl) rfl (fun w' hw' => by go_simp) ?_
    refine takeC 3 (v := .pointer (some ⟨r, 0, none⟩)) rfl rfl (by kernel_rfl) (by kernel_rfl) (by kernel_rfl) (fun _ _ _ h => h) (fun _ => rfl) rfl (fun w' hw' => by go_simp) ?_
    refine takeC 4 (v := .pointer (some ⟨r, 0, none⟩)) rfl rfl (by kernel_rfl) (by kernel_rfl) (by kernel_rfl) (fun _ _ _ h => h) (fun _ => rfl) rfl (fun w' hw' => by go_simp) ?_
    refine takeC 5 (v := .pointer (some ⟨r, 0, none⟩)) rfl rfl (by kernel_rfl) (by kernel_rfl) (by kernel_rfl) (fun _ _ _ h => h) (fun _ => rfl) rfl (fun w' hw' => by go_simp) ?_
    refine takeC 6 (v := .pointer (some ⟨r, 14, none⟩)) rfl rfl (by kernel_rfl) (by kernel_rfl) (by kernel_rfl) (fun _ _ _ h => h) (fun _ => rfl) rfl (fun w' hw' => by go_simp) ?_
    refine takeC 7 (v := .agg #[.int .i64 sm, .int .i64 ss]) rfl rfl (by kernel_rfl) (by kernel_rfl) (by kernel_rfl) (fun _ _ _ h => h) (fun _ => rfl) rfl (fun w' hw' => run_la 37 (.tmp 22) rfl ⟨r, 14, none⟩ (by kernel_rfl) [.int .i64 sm, .int .i64 ss] _ (two_at ((hw'.block _ hrz).trans HR.out) rfl rfl) Try.underlying37 rfl (by kernel_rfl)) ?_
    refine stepK 2 HD.out (by kernel_rfl) rfl rfl 22 #[.pointer (some ⟨r, 0, none⟩), .slice ad n cap] (by kernel_rfl) (hS.out _ HD.out) ?_
    rintro e w1 ⟨⟨v, rfl, hO⟩, hb1⟩
    obtain ⟨va, vc, rfl, hrow, -⟩ := hO.row
    have HB1 : Hid (Below W.heap.size W w1) := btr HD.out hb1
    have HRw : Hid (IRow .i64 w1 va SS.length vc SS) := hrow
    clear hO hrow hb1
    refine ⟨_, rfl, ?_⟩
    refine stepK 8 HB1.out (by kernel_rfl) rfl rfl 70 #[.slice va SS.length vc, .agg #[.int .i64 sm, .int .i64 ss]] (by kernel_rfl) (scaled_any sm ss va SS.length vc SS w1 HRw.out HL.out HB.out) ?_
    rintro e w2 ⟨⟨v, rfl, hO2⟩, hb2⟩
    have HB2 : Hid (Below W.heap.size W w2) := btr HB1.out hb2
    have HO : Hid (Own .i64 2 w2 W.heap.size v (apL SS sm ss)) := hO2.base HB1.out.size
    clear hO2 hb2
    refine ⟨_, rfl, ?_⟩
    refine stepR 9 HB2.out (by kernel_rfl) rfl rfl v w2 (by kernel_rfl) ?_
    refine doneC HB2.out (by kernel_rfl) ?_ _
    go_wp2
    exact bodyPost_ret (v := v) (by simp [results, Try.results52, go_sem]) rfl ⟨⟨_, rfl, HO.out⟩, HB2.out⟩
/-! ### Means -/
set_option maxRecDepth 100000 in
set_option maxHeartbeats 4000000 in
theorem values_m (a b m kh kw sh sw tp lf bt rt : Int) (wa : Option Addr) (lw wc : Nat) (ba : Option Addr) (lb bc : Nat) (sm ss um us z p lo hi h w c H V C : Int) (r : Nat) (W : World) (hr : W.heap[r]? = some (.cells #[.int .i64 4, .int .i64 a, .int .i64 b, .int .i64 m, .int .i64 kh, .int .i64 kw, .int .i64 sh, .int .i64 sw, .int .i64 tp, .int .i64 lf, .int .i64 bt, .int .i64 rt, .slice wa lw wc, .slice ba lb bc, .int .i64 sm, .int .i64 ss, .int .i64 um, .int .i64 us, .int .i64 z, .int .i64 p, .int .i64 lo, .int .i64 hi, .int .i64 h, .int .i64 w, .int .i64 c, .int .i64 H, .int .i64 V, .int .i64 C] 76 (0, 0))) (ad : Option Addr) (n cap : Nat) (bd : Option Addr) (nb capb : Nat) (SS : List Int) (hS : Hid (∀ (w' : World), Below W.heap.size W w' → Calls Try.prog 22 #[.pointer (some ⟨r, 0, none⟩), .slice ad n cap] w' fun e w'' => (∃ v, e = .returned v ∧ Own .i64 2 w'' w'.heap.size v SS) ∧ Below w'.heap.size w' w'')) (hl : SS.length ≤ 1000000) (hbd : ∀ v ∈ SS, -4294967296 ≤ v ∧ v ≤ 4294967296) (hkh : 1 ≤ kh ∧ kh ≤ 32) (hkw : 1 ≤ kw ∧ kw ≤ 32) :
    Calls Try.prog 52 #[.pointer (some ⟨r, 0, none⟩), .slice ad n cap, .slice bd nb capb] W fun e w' => (∃ v, e = .returned v ∧ Own .i64 2 w' W.heap.size v (meL SS (kh * kw))) ∧ Below W.heap.size W w' := by
  have hrz := lt_of_heap hr
  obtain ⟨c1, f1, z1⟩ := cells_at hr
  have HR : Hid (W.heap[r]? = some (.cells #[.int .i64 4, .int .i64 a, .int .i64 b, .int .i64 m, .int .i64 kh, .int .i64 kw, .int .i64 sh, .int .i64 sw, .int .i64 tp, .int .i64 lf, .int .i64 bt, .int .i64 rt, .slice wa lw wc, .slice ba lb bc, .int .i64 sm, .int .i64 ss, .int .i64 um, .int .i64 us, .int .i64 z, .int .i64 p, .int .i64 lo, .int .i64 hi, .int .i64 h, .int .i64 w, .int .i64 c, .int .i64 H, .int .i64 V, .int .i64 C] 76 (0, 0))) := hr
  have HB : Hid (∀ v ∈ SS, -4294967296 ≤ v ∧ v ≤ 4294967296) := hbd
  have HL : Hid (SS.length ≤ 1000000) := hl
  obtain ⟨q1, q2⟩ := mul_bd hkh.1 hkh.2 hkw.1 hkw.2
  obtain ⟨KK, hKK⟩ : ∃ KK, kh * kw = KK := ⟨_, rfl⟩
  rw [hKK] at q1 q2 ⊢
  have hwK : IntKind.i64.wrap KK = KK := w64 (by omega)
  clear hr hbd hl
  go_enter Try.func52, Try.ntmps52
  go_wp2
  refine regionC (fun w' => Below W.heap.size W w') (by kernel_rfl) ?_
  obtain ⟨wd, hwd⟩ : ∃ wd, W.drew = wd := ⟨_, rfl⟩
  have HD : Hid (Below W.heap.size W wd) := by unfold Hid; rw [← hwd]; exact (Below.refl _ _).drew
  rw [hwd]
  clear hwd c1 f1
  refine takeC 0 (v := .pointer (some ⟨r, 0, none⟩)) rfl rfl (by kernel_rfl) (by kernel_rfl) (by kernel_rfl) (fun _ _ _ h => h) (fun _ => rfl) rfl (fun w' hw' => by go_simp) ?_
  refine takeC 1 (v := .slice ad n cap) rfl rfl (by kernel_rfl) (by kernel_rfl) (by kernel_rfl) (fun _ _ _ h => h) (fun _ => rfl) rfl (fun w' hw' => by go_simp) ?_
  refine takeC 3 (v := .pointer (some ⟨r, 0, none⟩)) rfl rfl (by kernel_rfl) (by kernel_rfl) (by kernel_rfl) (fun _ _ _ h => h) (fun _ => rfl) rfl (fun w' hw' => by go_simp) ?_
  refine takeC 4 (v := .pointer (some ⟨r, 0, none⟩)) rfl rfl (by kernel_rfl) (by kernel_rfl) (by kernel_rfl) (fun _ _ _ h => h) (fun _ => rfl) rfl (fun w' hw' => by go_simp) ?_
  refine takeC 5 (v := .pointer (some ⟨r, 0, none⟩)) rfl rfl (by kernel_rfl) (by kernel_rfl) (by kernel_rfl) (fun _ _ _ h => h) (fun _ => rfl) rfl (fun w' hw' => by go_simp) ?_
  refine takeC 6 (v := .pointer (some ⟨r, 4, none⟩)) rfl rfl (by kernel_rfl) (by kernel_rfl) (by kernel_rfl) (fun _ _ _ h => h) (fun _ => rfl) rfl (fun w' hw' => by go_simp) ?_
  refine takeC 7 (v := .pointer (some ⟨r, 4, none⟩)) rfl rfl (by kernel_rfl) (by kernel_rfl) (by kernel_rfl) (fun _ _ _ h => h) (fun _ => rfl) rfl (fun w' hw' => by go_simp) ?_
  refine takeC 8 (v := .int .i64 kh) rfl rfl (by kernel_rfl) (by kernel_rfl) (by kernel_rfl) (fun _ _ _ h => h) (fun _ => rfl) rfl (fun w' hw' => by have hc := (cells_at ((hw'.block _ hrz).trans HR.out)).1 4; go_simp) ?_
  refine takeC 9 (v := .pointer (some ⟨r, 0, none⟩)) rfl rfl (by kernel_rfl) (by kernel_rfl) (by kernel_rfl) (fun _ _ _ h => h) (fun _ => rfl) rfl (fun w' hw' => by go_simp) ?_
  refine takeC 10 (v := .pointer (some ⟨r, 0, none⟩)) rfl rfl (by kernel_rfl) (by kernel_rfl) (by kernel_rfl) (fun _ _ _ h => h) (fun _ => rfl) rfl (fun w' hw' => by go_simp) ?_
  refine takeC 11 (v := .pointer (some ⟨r, 0, none⟩)) rfl rfl (by kernel_rfl) (by kernel_rfl) (by kernel_rfl) (fun _ _ _ h => h) (fun _ => rfl) rfl (fun w' hw' => by go_simp) ?_
  refine takeC 12 (v := .pointer (some ⟨r, 4, none⟩)) rfl rfl (by kernel_rfl) (by kernel_rfl) (by kernel_rfl) (fun _ _ _ h => h) (fun _ => rfl) rfl (fun w' hw' => by go_simp) ?_
  refine takeC 13 (v := .pointer (some ⟨r, 5, none⟩)) rfl rfl (by kernel_rfl) (by kernel_rfl) (by kernel_rfl) (fun _ _ _ h => h) (fun _ => rfl) rfl (fun w' hw' => by go_simp) ?_
  refine takeC 14 (v := .int .i64 kw) rfl rfl (by kernel_rfl) (by kernel_rfl) (by kernel_rfl) (fun _ _ _ h => h) (fun _ => rfl) rfl (fun w' hw' => by have hc := (cells_at ((hw'.block _ hrz).trans HR.out)).1 5; go_simp) ?_
  refine takeC 15 (v := .int .i64 KK) rfl rfl (by kernel_rfl) (by kernel_rfl) (by kernel_rfl) (fun _ _ _ h => h) (fun _ => rfl) rfl (fun w' hw' => by go_simp) ?_
  refine stepK 2 HD.out (by kernel_rfl) rfl rfl 22 #[.pointer (some ⟨r, 0, none⟩), .slice ad n cap] (by kernel_rfl) (hS.out _ HD.out) ?_
  rintro e w1 ⟨⟨v, rfl, hO⟩, hb1⟩
  obtain ⟨va, vc, rfl, hrow, -⟩ := hO.row
  have HB1 : Hid (Below W.heap.size W w1) := btr HD.out hb1
  have HRw : Hid (IRow .i64 w1 va SS.length vc SS) := hrow
  clear hO hrow hb1
  refine ⟨_, rfl, ?_⟩
  refine stepK 16 HB1.out (by kernel_rfl) rfl rfl 71 #[.slice va SS.length vc, .int .i64 KK] (by kernel_rfl) (means_any KK ⟨q1, by omega⟩ va SS.length vc SS w1 HRw.out HL.out HB.out) ?_
  rintro e w2 ⟨⟨v, rfl, hO2⟩, hb2⟩
  have HB2 : Hid (Below W.heap.size W w2) := btr HB1.out hb2
  have HO : Hid (Own .i64 2 w2 W.heap.size v (meL SS KK)) := hO2.base HB1.out.size
  clear hO2 hb2
  refine ⟨_, rfl, ?_⟩
  refine stepR 17 HB2.out (by kernel_rfl) rfl rfl v w2 (by kernel_rfl) ?_
  refine doneC HB2.out (by kernel_rfl) ?_ _
  go_wp2
  exact bodyPost_ret (v := v) (by simp [results, Try.results52, go_sem]) rfl ⟨⟨_, rfl, HO.out⟩, HB2.out⟩
/-! ### The greatest -/
set_option maxRecDepth 100000 in
set_option maxHeartbeats 4000000 in
theorem values_g (a b m kh kw sh sw tp lf bt rt : Int) (wa : Option Addr) (lw wc : Nat) (ba : Option Addr) (lb bc : Nat) (sm ss um us z p lo hi h w c H V C : Int) (r : Nat) (W : World) (hr : W.heap[r]? = some (.cells #[.int .i64 5, .int .i64 a, .int .i64 b, .int .i64 m, .int .i64 kh, .int .i64 kw, .int .i64 sh, .int .i64 sw, .int .i64 tp, .int .i64 lf, .int .i64 bt, .int .i64 rt, .slice wa lw wc, .slice ba lb bc, .int .i64 sm, .int .i64 ss, .int .i64 um, .int .i64 us, .int .i64 z, .int .i64 p, .int .i64 lo, .int .i64 hi, .int .i64 h, .int .i64 w, .int .i64 c, .int .i64 H, .int .i64 V, .int .i64 C] 76 (0, 0))) (ad : Option Addr) (n cap : Nat) (bd : Option Addr) (nb capb : Nat) (SS : List Int) (hS : Hid (∀ (w' : World), Below W.heap.size W w' → Calls Try.prog 72 #[.pointer (some ⟨r, 0, none⟩), .slice ad n cap] w' fun e w'' => (∃ v, e = .returned v ∧ Own .i64 2 w'' w'.heap.size v SS) ∧ Below w'.heap.size w' w'')) :
    Calls Try.prog 52 #[.pointer (some ⟨r, 0, none⟩), .slice ad n cap, .slice bd nb capb] W fun e w' => (∃ v, e = .returned v ∧ Own .i64 2 w' W.heap.size v SS) ∧ Below W.heap.size W w' := by
  have hrz := lt_of_heap hr
  obtain ⟨c1, f1, z1⟩ := cells_at hr
  have HR : Hid (W.heap[r]? = some (.cells #[.int .i64 5, .int .i64 a, .int .i64 b, .int .i64 m, .int .i64 kh, .int .i64 kw, .int .i64 sh, .int .i64 sw, .int .i64 tp, .int .i64 lf, .int .i64 bt, .int .i64 rt, .slice wa lw wc, .slice ba lb bc, .int .i64 sm, .int .i64 ss, .int .i64 um, .int .i64 us, .int .i64 z, .int .i64 p, .int .i64 lo, .int .i64 hi, .int .i64 h, .int .i64 w, .int .i64 c, .int .i64 H, .int .i64 V, .int .i64 C] 76 (0, 0))) := hr
  clear hr
  go_enter Try.func52, Try.ntmps52
  go_wp2_with fail
  refine (hS.out _ (Below.refl _ _)).mono ?_
  rintro e w1 ⟨⟨v, rfl, hO⟩, hb1⟩
  have HO : Hid (Own .i64 2 w1 W.heap.size v SS) := hO
  clear hO
  go_wp2
  go_ret
  exact ⟨⟨_, rfl, HO.out⟩, hb1⟩
/-! ### Both tensors -/
set_option maxRecDepth 100000 in
set_option maxHeartbeats 4000000 in
theorem values_a (a b m kh kw sh sw tp lf bt rt : Int) (wa : Option Addr) (lw wc : Nat) (ba : Option Addr) (lb bc : Nat) (sm ss um us z p lo hi h w c H V C : Int) (r : Nat) (W : World) (hr : W.heap[r]? = some (.cells #[.int .i64 6, .int .i64 a, .int .i64 b, .int .i64 m, .int .i64 kh, .int .i64 kw, .int .i64 sh, .int .i64 sw, .int .i64 tp, .int .i64 lf, .int .i64 bt, .int .i64 rt, .slice wa lw wc, .slice ba lb bc, .int .i64 sm, .int .i64 ss, .int .i64 um, .int .i64 us, .int .i64 z, .int .i64 p, .int .i64 lo, .int .i64 hi, .int .i64 h, .int .i64 w, .int .i64 c, .int .i64 H, .int .i64 V, .int .i64 C] 76 (0, 0))) (ad : Option Addr) (n cap : Nat) (xs : List Int) (hX : IRow .i8 W ad n cap xs) (hn : n ≤ 1000000) (bd : Option Addr) (capb : Nat) (ys : List Int) (hY : IRow .i8 W bd n capb ys) :
    Calls Try.prog 52 #[.pointer (some ⟨r, 0, none⟩), .slice ad n cap, .slice bd n capb] W fun e w' => (∃ v, e = .returned v ∧ Own .i64 2 w' W.heap.size v (adL (apL xs sm ss) (apL ys um us))) ∧ Below W.heap.size W w' := by
  have hrz := lt_of_heap hr
  obtain ⟨c1, f1, z1⟩ := cells_at hr
  have HR : Hid (W.heap[r]? = some (.cells #[.int .i64 6, .int .i64 a, .int .i64 b, .int .i64 m, .int .i64 kh, .int .i64 kw, .int .i64 sh, .int .i64 sw, .int .i64 tp, .int .i64 lf, .int .i64 bt, .int .i64 rt, .slice wa lw wc, .slice ba lb bc, .int .i64 sm, .int .i64 ss, .int .i64 um, .int .i64 us, .int .i64 z, .int .i64 p, .int .i64 lo, .int .i64 hi, .int .i64 h, .int .i64 w, .int .i64 c, .int .i64 H, .int .i64 V, .int .i64 C] 76 (0, 0))) := hr
  have HX : Hid (IRow .i8 W ad n cap xs) := hX
  have HY : Hid (IRow .i8 W bd n capb ys) := hY
  have hx8 := hX.i8
  have hy8 := hY.i8
  have HX8 : Hid (∀ v ∈ xs, I8 v) := hx8
  have HY8 : Hid (∀ v ∈ ys, I8 v) := hy8
  have hlx := hX.1
  have hly := hY.1
  have HLX : Hid (xs.length = n) := hlx
  have HLY : Hid (ys.length = n) := hly
  clear hr hX hY hx8 hy8 hlx hly
  go_enter Try.func52, Try.ntmps52
  go_wp2
  refine regionC (fun w' => Below W.heap.size W w') (by kernel_rfl) ?_
  obtain ⟨wd, hwd⟩ : ∃ wd, W.drew = wd := ⟨_, rfl⟩
  have HD : Hid (Below W.heap.size W wd) := by unfold Hid; rw [← hwd]; exact (Below.refl _ _).drew
  rw [hwd]
  clear hwd c1 f1
  refine takeC 0 (v := .slice ad n cap) rfl rfl (by kernel_rfl) (by kernel_rfl) (by kernel_rfl) (fun _ _ _ h => h) (fun _ => rfl) rfl (fun w' hw' => by go_simp) ?_
  refine takeC 2 (v := .pointer (some ⟨r, 0, none⟩)) rfl rfl (by kernel_rfl) (by kernel_rfl) (by kernel_rfl) (fun _ _ _ h => h) (fun _ => rfl) rfl (fun w' hw' => by go_simp) ?_
  refine takeC 3 (v := .pointer (some ⟨r, 0, none⟩)) rfl rfl (by kernel_rfl) (by kernel_rfl) (by kernel_rfl) (fun _ _ _ h => h) (fun _ => rfl) rfl (fun w' hw' => by go_simp) ?_
  refine takeC 4 (v := .pointer (some ⟨r, 0, none⟩)) rfl rfl (by kernel_rfl) (by kernel_rfl) (by kernel_rfl) (fun _ _ _ h => h) (fun _ => rfl) rfl (fun w' hw' => by go_simp) ?_
  refine takeC 5 (v := .pointer (some ⟨r, 14, none⟩)) rfl rfl (by kernel_rfl) (by kernel_rfl) (by kernel_rfl) (fun _ _ _ h => h) (fun _ => rfl) rfl (fun w' hw' => by go_simp) ?_
  refine takeC 6 (v := .agg #[.int .i64 sm, .int .i64 ss]) rfl rfl (by kernel_rfl) (by kernel_rfl) (by kernel_rfl) (fun _ _ _ h => h) (fun _ => rfl) rfl (fun w' hw' => run_la 37 (.tmp 56) rfl ⟨r, 14, none⟩ (by kernel_rfl) [.int .i64 sm, .int .i64 ss] _ (two_at ((hw'.block _ hrz).trans HR.out) rfl rfl) Try.underlying37 rfl (by kernel_rfl)) ?_
  refine takeC 8 (v := .slice bd n capb) rfl rfl (by kernel_rfl) (by kernel_rfl) (by kernel_rfl) (fun _ _ _ h => h) (fun _ => rfl) rfl (fun w' hw' => by go_simp) ?_
  refine takeC 10 (v := .pointer (some ⟨r, 0, none⟩)) rfl rfl (by kernel_rfl) (by kernel_rfl) (by kernel_rfl) (fun _ _ _ h => h) (fun _ => rfl) rfl (fun w' hw' => by go_simp) ?_
  refine takeC 11 (v := .pointer (some ⟨r, 0, none⟩)) rfl rfl (by kernel_rfl) (by kernel_rfl) (by kernel_rfl) (fun _ _ _ h => h) (fun _ => rfl) rfl (fun w' hw' => by go_simp) ?_
  refine takeC 12 (v := .pointer (some ⟨r, 0, none⟩)) rfl rfl (by kernel_rfl) (by kernel_rfl) (by kernel_rfl) (fun _ _ _ h => h) (fun _ => rfl) rfl (fun w' hw' => by go_simp) ?_
  refine takeC 13 (v := .pointer (some ⟨r, 16, none⟩)) rfl rfl (by kernel_rfl) (by kernel_rfl) (by kernel_rfl) (fun _ _ _ h => h) (fun _ => rfl) rfl (fun w' hw' => by go_simp) ?_
  refine takeC 14 (v := .agg #[.int .i64 um, .int .i64 us]) rfl rfl (by kernel_rfl) (by kernel_rfl) (by kernel_rfl) (fun _ _ _ h => h) (fun _ => rfl) rfl (fun w' hw' => run_la 37 (.tmp 64) rfl ⟨r, 16, none⟩ (by kernel_rfl) [.int .i64 um, .int .i64 us] _ (two_at ((hw'.block _ hrz).trans HR.out) rfl rfl) Try.underlying37 rfl (by kernel_rfl)) ?_
  refine stepK 1 HD.out (by kernel_rfl) rfl rfl 74 #[.slice ad n cap] (by kernel_rfl) (widened_any ad n cap xs wd (HX.out.below HD.out) hn) ?_
  rintro e w1 ⟨⟨v, rfl, hO⟩, hb1⟩
  obtain ⟨va, vc, rfl, hrow, -⟩ := hO.row
  have HB1 : Hid (Below W.heap.size W w1) := btr HD.out hb1
  have HRw : Hid (IRow .i64 w1 va xs.length vc xs) := hrow
  clear hO hrow hb1
  refine ⟨_, rfl, ?_⟩
  refine stepK 7 HB1.out (by kernel_rfl) rfl rfl 70 #[.slice va xs.length vc, .agg #[.int .i64 sm, .int .i64 ss]] (by kernel_rfl) (scaled_any sm ss va xs.length vc xs w1 HRw.out (by rw [HLX.out]; exact hn) (fun v hv => by have := HX8.out v hv; unfold I8 at this; omega)) ?_
  rintro e w2 ⟨⟨v, rfl, hO⟩, hb2⟩
  obtain ⟨vb, vd, rfl, hrow, -⟩ := hO.row
  have HB2 : Hid (Below W.heap.size W w2) := btr HB1.out hb2
  have HRw2 : Hid (IRow .i64 w2 vb (apL xs sm ss).length vd (apL xs sm ss)) := hrow
  clear hO hrow hb2
  refine ⟨_, rfl, ?_⟩
  refine stepK 9 HB2.out (by kernel_rfl) rfl rfl 74 #[.slice bd n capb] (by kernel_rfl) (widened_any bd n capb ys w2 (HY.out.below HB2.out) hn) ?_
  rintro e w3 ⟨⟨v, rfl, hO⟩, hb3⟩
  obtain ⟨ve, vf, rfl, hrow, -⟩ := hO.row
  have HB3 : Hid (Below W.heap.size W w3) := btr HB2.out hb3
  have HRw3 : Hid (IRow .i64 w3 ve ys.length vf ys) := hrow
  have HRw4 : Hid (IRow .i64 w3 vb (apL xs sm ss).length vd (apL xs sm ss)) := HRw2.out.below hb3
  clear hO hrow hb3
  refine ⟨_, rfl, ?_⟩
  refine stepK 15 HB3.out (by kernel_rfl) rfl rfl 70 #[.slice ve ys.length vf, .agg #[.int .i64 um, .int .i64 us]] (by kernel_rfl) (scaled_any um us ve ys.length vf ys w3 HRw3.out (by rw [HLY.out]; exact hn) (fun v hv => by have := HY8.out v hv; unfold I8 at this; omega)) ?_
  rintro e w4 ⟨⟨v, rfl, hO⟩, hb4⟩
  obtain ⟨vg, vh, rfl, hrow, -⟩ := hO.row
  have HB4 : Hid (Below W.heap.size W w4) := btr HB3.out hb4
  have eX : (apL xs sm ss).length = n := by unfold apL; rw [List.length_map]; exact HLX.out
  have eY : (apL ys um us).length = n := by unfold apL; rw [List.length_map]; exact HLY.out
  have HRw5 : Hid (IRow .i64 w4 vg n vh (apL ys um us)) := by rw [← eY]; exact hrow
  have HRw6 : Hid (IRow .i64 w4 vb n vd (apL xs sm ss)) := by rw [← eX]; exact HRw4.out.below hb4
  refine ⟨_, rfl, ?_⟩
  rw [eX, eY]
  clear hO hrow hb4 eX eY
  refine stepK 16 HB4.out (by kernel_rfl) rfl rfl 73 #[.slice vb n vd, .slice vg n vh] (by kernel_rfl) (added_any vb vg n vd vh (apL xs sm ss) (apL ys um us) w4 HRw6.out HRw5.out hn (fun v hv => by obtain ⟨u, hu, rfl⟩ := List.mem_map.1 hv; exact apV_i8 (HX8.out u hu)) (fun v hv => by obtain ⟨u, hu, rfl⟩ := List.mem_map.1 hv; exact apV_i8 (HY8.out u hu))) ?_
  rintro e w5 ⟨⟨v, rfl, hO2⟩, hb5⟩
  have HB5 : Hid (Below W.heap.size W w5) := btr HB4.out hb5
  have HO : Hid (Own .i64 2 w5 W.heap.size v (adL (apL xs sm ss) (apL ys um us))) := hO2.base HB4.out.size
  clear hO2 hb5
  refine ⟨_, rfl, ?_⟩
  refine stepR 17 HB5.out (by kernel_rfl) rfl rfl v w5 (by kernel_rfl) ?_
  refine doneC HB5.out (by kernel_rfl) ?_ _
  go_wp2
  exact bodyPost_ret (v := v) (by simp [results, Try.results52, go_sem]) rfl ⟨⟨_, rfl, HO.out⟩, HB5.out⟩
/-! ### One tensor -/
set_option maxRecDepth 100000 in
set_option maxHeartbeats 4000000 in
theorem values_r (a b m kh kw sh sw tp lf bt rt : Int) (wa : Option Addr) (lw wc : Nat) (ba : Option Addr) (lb bc : Nat) (sm ss um us z p lo hi h w c H V C : Int) (r : Nat) (W : World) (hr : W.heap[r]? = some (.cells #[.int .i64 7, .int .i64 a, .int .i64 b, .int .i64 m, .int .i64 kh, .int .i64 kw, .int .i64 sh, .int .i64 sw, .int .i64 tp, .int .i64 lf, .int .i64 bt, .int .i64 rt, .slice wa lw wc, .slice ba lb bc, .int .i64 sm, .int .i64 ss, .int .i64 um, .int .i64 us, .int .i64 z, .int .i64 p, .int .i64 lo, .int .i64 hi, .int .i64 h, .int .i64 w, .int .i64 c, .int .i64 H, .int .i64 V, .int .i64 C] 76 (0, 0))) (ad : Option Addr) (n cap : Nat) (xs : List Int) (hX : IRow .i8 W ad n cap xs) (hn : n ≤ 1000000) (bd : Option Addr) (nb capb : Nat) :
    Calls Try.prog 52 #[.pointer (some ⟨r, 0, none⟩), .slice ad n cap, .slice bd nb capb] W fun e w' => (∃ v, e = .returned v ∧ Own .i64 2 w' W.heap.size v (apL xs sm ss)) ∧ Below W.heap.size W w' := by
  have hrz := lt_of_heap hr
  obtain ⟨c1, f1, z1⟩ := cells_at hr
  have HR : Hid (W.heap[r]? = some (.cells #[.int .i64 7, .int .i64 a, .int .i64 b, .int .i64 m, .int .i64 kh, .int .i64 kw, .int .i64 sh, .int .i64 sw, .int .i64 tp, .int .i64 lf, .int .i64 bt, .int .i64 rt, .slice wa lw wc, .slice ba lb bc, .int .i64 sm, .int .i64 ss, .int .i64 um, .int .i64 us, .int .i64 z, .int .i64 p, .int .i64 lo, .int .i64 hi, .int .i64 h, .int .i64 w, .int .i64 c, .int .i64 H, .int .i64 V, .int .i64 C] 76 (0, 0))) := hr
  have HX : Hid (IRow .i8 W ad n cap xs) := hX
  have hx8 := hX.i8
  have HX8 : Hid (∀ v ∈ xs, I8 v) := hx8
  have hlx := hX.1
  have HLX : Hid (xs.length = n) := hlx
  clear hr hX hx8 hlx
  go_enter Try.func52, Try.ntmps52
  go_wp2
  refine regionC (fun w' => Below W.heap.size W w') (by kernel_rfl) ?_
  obtain ⟨wd, hwd⟩ : ∃ wd, W.drew = wd := ⟨_, rfl⟩
  have HD : Hid (Below W.heap.size W wd) := by unfold Hid; rw [← hwd]; exact (Below.refl _ _).drew
  rw [hwd]
  clear hwd c1 f1
  refine takeC 0 (v := .slice ad n cap) rfl rfl (by kernel_rfl) (by kernel_rfl) (by kernel_rfl) (fun _ _ _ h => h) (fun _ => rfl) rfl (fun w' hw' => by go_simp) ?_
  refine takeC 2 (v := .pointer (some ⟨r, 0, none⟩)) rfl rfl (by kernel_rfl) (by kernel_rfl) (by kernel_rfl) (fun _ _ _ h => h) (fun _ => rfl) rfl (fun w' hw' => by go_simp) ?_
  refine takeC 3 (v := .pointer (some ⟨r, 0, none⟩)) rfl rfl (by kernel_rfl) (by kernel_rfl) (by kernel_rfl) (fun _ _ _ h => h) (fun _ => rfl) rfl (fun w' hw' => by go_simp) ?_
  refine takeC 4 (v := .pointer (some ⟨r, 0, none⟩)) rfl rfl (by kernel_rfl) (by kernel_rfl) (by kernel_rfl) (fun _ _ _ h => h) (fun _ => rfl) rfl (fun w' hw' => by go_simp) ?_
  refine takeC 5 (v := .pointer (some ⟨r, 14, none⟩)) rfl rfl (by kernel_rfl) (by kernel_rfl) (by kernel_rfl) (fun _ _ _ h => h) (fun _ => rfl) rfl (fun w' hw' => by go_simp) ?_
  refine takeC 6 (v := .agg #[.int .i64 sm, .int .i64 ss]) rfl rfl (by kernel_rfl) (by kernel_rfl) (by kernel_rfl) (fun _ _ _ h => h) (fun _ => rfl) rfl (fun w' hw' => run_la 37 (.tmp 75) rfl ⟨r, 14, none⟩ (by kernel_rfl) [.int .i64 sm, .int .i64 ss] _ (two_at ((hw'.block _ hrz).trans HR.out) rfl rfl) Try.underlying37 rfl (by kernel_rfl)) ?_
  refine stepK 1 HD.out (by kernel_rfl) rfl rfl 74 #[.slice ad n cap] (by kernel_rfl) (widened_any ad n cap xs wd (HX.out.below HD.out) hn) ?_
  rintro e w1 ⟨⟨v, rfl, hO⟩, hb1⟩
  obtain ⟨va, vc, rfl, hrow, -⟩ := hO.row
  have HB1 : Hid (Below W.heap.size W w1) := btr HD.out hb1
  have HRw : Hid (IRow .i64 w1 va xs.length vc xs) := hrow
  clear hO hrow hb1
  refine ⟨_, rfl, ?_⟩
  refine stepK 7 HB1.out (by kernel_rfl) rfl rfl 70 #[.slice va xs.length vc, .agg #[.int .i64 sm, .int .i64 ss]] (by kernel_rfl) (scaled_any sm ss va xs.length vc xs w1 HRw.out (by rw [HLX.out]; exact hn) (fun v hv => by have := HX8.out v hv; unfold I8 at this; omega)) ?_
  rintro e w2 ⟨⟨v, rfl, hO2⟩, hb2⟩
  have HB2 : Hid (Below W.heap.size W w2) := btr HB1.out hb2
  have HO : Hid (Own .i64 2 w2 W.heap.size v (apL xs sm ss)) := hO2.base HB1.out.size
  clear hO2 hb2
  refine ⟨_, rfl, ?_⟩
  refine stepR 8 HB2.out (by kernel_rfl) rfl rfl v w2 (by kernel_rfl) ?_
  refine doneC HB2.out (by kernel_rfl) ?_ _
  go_wp2
  exact bodyPost_ret (v := v) (by simp [results, Try.results52, go_sem]) rfl ⟨⟨_, rfl, HO.out⟩, HB2.out⟩
set_option maxRecDepth 100000 in
set_option maxHeartbeats 4000000 in
theorem values_c (a b m kh kw sh sw tp lf bt rt : Int) (wa : Option Addr) (lw wc : Nat) (ba : Option Addr) (lb bc : Nat) (sm ss um us z p lo hi h w c H V C : Int) (r : Nat) (W : World) (hr : W.heap[r]? = some (.cells #[.int .i64 8, .int .i64 a, .int .i64 b, .int .i64 m, .int .i64 kh, .int .i64 kw, .int .i64 sh, .int .i64 sw, .int .i64 tp, .int .i64 lf, .int .i64 bt, .int .i64 rt, .slice wa lw wc, .slice ba lb bc, .int .i64 sm, .int .i64 ss, .int .i64 um, .int .i64 us, .int .i64 z, .int .i64 p, .int .i64 lo, .int .i64 hi, .int .i64 h, .int .i64 w, .int .i64 c, .int .i64 H, .int .i64 V, .int .i64 C] 76 (0, 0))) (ad : Option Addr) (n cap : Nat) (xs : List Int) (hX : IRow .i8 W ad n cap xs) (hn : n ≤ 1000000) (bd : Option Addr) (nb capb : Nat) :
    Calls Try.prog 52 #[.pointer (some ⟨r, 0, none⟩), .slice ad n cap, .slice bd nb capb] W fun e w' => (∃ v, e = .returned v ∧ Own .i64 2 w' W.heap.size v xs) ∧ Below W.heap.size W w' := by
  have hrz := lt_of_heap hr
  obtain ⟨c1, f1, z1⟩ := cells_at hr
  have HR : Hid (W.heap[r]? = some (.cells #[.int .i64 8, .int .i64 a, .int .i64 b, .int .i64 m, .int .i64 kh, .int .i64 kw, .int .i64 sh, .int .i64 sw, .int .i64 tp, .int .i64 lf, .int .i64 bt, .int .i64 rt, .slice wa lw wc, .slice ba lb bc, .int .i64 sm, .int .i64 ss, .int .i64 um, .int .i64 us, .int .i64 z, .int .i64 p, .int .i64 lo, .int .i64 hi, .int .i64 h, .int .i64 w, .int .i64 c, .int .i64 H, .int .i64 V, .int .i64 C] 76 (0, 0))) := hr
  clear hr
  have HW : Hid (∀ (w' : World), Below W.heap.size W w' → _) := fun w' hb => widened_any ad n cap xs w' (hX.below hb) hn
  clear hX
  go_enter Try.func52, Try.ntmps52
  go_wp2_with fail
  refine (HW.out _ (Below.refl _ _)).mono ?_
  rintro e w1 ⟨⟨v, rfl, hO⟩, hb1⟩
  have HO : Hid (Own .i64 2 w1 W.heap.size v xs) := hO
  clear hO
  go_wp2
  go_ret
  exact ⟨⟨_, rfl, HO.out⟩, hb1⟩
/-! ### Whatever the kind -/
theorem values_any (k a b m kh kw sh sw tp lf bt rt : Int) (wa : Option Addr) (lw wc : Nat) (ba : Option Addr) (lb bc : Nat) (sm ss um us z p lo hi h w c H V C : Int) (r : Nat) (W : World) (hr : W.heap[r]? = some (.cells #[.int .i64 k, .int .i64 a, .int .i64 b, .int .i64 m, .int .i64 kh, .int .i64 kw, .int .i64 sh, .int .i64 sw, .int .i64 tp, .int .i64 lf, .int .i64 bt, .int .i64 rt, .slice wa lw wc, .slice ba lb bc, .int .i64 sm, .int .i64 ss, .int .i64 um, .int .i64 us, .int .i64 z, .int .i64 p, .int .i64 lo, .int .i64 hi, .int .i64 h, .int .i64 w, .int .i64 c, .int .i64 H, .int .i64 V, .int .i64 C] 76 (0, 0))) (s : Opd k b m kh kw sh sw tp lf bt rt lw lb sm ss um us z p lo hi h w c H V C) (zs bs : List Int) (hZ : IRow .i16 W wa lw wc zs) (hB : IRow .i32 W ba lb bc bs) (hlw : lw * 2 ≤ 140737488351232) (hlb : lb * 4 ≤ 140737488351232) (ad : Option Addr) (n cap : Nat) (xs : List Int) (hX : IRow .i8 W ad n cap xs) (hn : (n : Int) = h * w * c) (bd : Option Addr) (nb capb : Nat) (ys : List Int) (hY : IRow .i8 W bd nb capb ys) (hnb : k = 6 → nb = n) :
    Calls Try.prog 52 #[.pointer (some ⟨r, 0, none⟩), .slice ad n cap, .slice bd nb capb] W fun e w' => (∃ v, e = .returned v ∧ Own .i64 2 w' W.heap.size v (vaL k kh kw sh sw tp lf bt rt sm ss um us p h w c H V C zs bs xs ys)) ∧ Below W.heap.size W w' := by
  have hrz := lt_of_heap hr
  have hn6 : n ≤ 1000000 := by have := (vS_bd s.hA).2; omega
  have hp8 : I8 p := by have := s.rz; unfold rzB vlB at this; simp at this; exact ⟨this.2.1, this.2.2⟩
  have hk := s.hk
  have hBb := (vS_bd s.hB).2
  by_cases k4 : k ≤ 4
  · have hS : Hid (∀ (w' : World), Below W.heap.size W w' → Calls Try.prog 22 #[.pointer (some ⟨r, 0, none⟩), .slice ad n cap] w' fun e w'' => (∃ v, e = .returned v ∧ Own .i64 2 w'' w'.heap.size v (suL k kh kw sh sw tp lf bt rt h w c C p zs bs xs (H * V * C).toNat)) ∧ Below w'.heap.size w' w'') :=
      fun w' hb => sums_any k a b m kh kw sh sw tp lf bt rt wa lw wc ba lb bc sm ss um us z p lo hi h w c H V C r w' ((hb.block r hrz).trans hr) s k4 zs bs (hZ.below hb) (hB.below hb) hlw hlb ad n cap xs (hX.below hb) hn
    have hbd := suL_bd (s.si k4) hZ.2.2.2.1 hB.2.2.2.1 hp8 hX.i8 (H * V * C).toNat
    have hl : (suL k kh kw sh sw tp lf bt rt h w c C p zs bs xs (H * V * C).toNat).length ≤ 1000000 := by rw [suL_len]; omega
    by_cases k3 : k ≤ 3
    · have e : vaL k kh kw sh sw tp lf bt rt sm ss um us p h w c H V C zs bs xs ys = apL (suL k kh kw sh sw tp lf bt rt h w c C p zs bs xs (H * V * C).toNat) sm ss := by unfold vaL; rw [if_pos k3]
      rw [e]
      exact values_s k a b m kh kw sh sw tp lf bt rt wa lw wc ba lb bc sm ss um us z p lo hi h w c H V C r W hr ⟨hk.1, k3⟩ ad n cap bd nb capb _ hS hl hbd
    · obtain rfl : k = 4 := by omega
      obtain ⟨w1, w2⟩ := (s.si k4).2.2.2.2.2.1 (by decide)
      exact values_m a b m kh kw sh sw tp lf bt rt wa lw wc ba lb bc sm ss um us z p lo hi h w c H V C r W hr ad n cap bd nb capb _ hS hl hbd w1 w2
  · rcases (show k = 5 ∨ k = 6 ∨ k = 7 ∨ k = 8 by omega) with rfl | rfl | rfl | rfl
    · have hou := s.ou (by decide)
      have hoz := of_decide_eq_true s.oz
      obtain ⟨rfl, rfl, rfl, rfl⟩ := hoz.2.2.2.2.2.2 (.inr rfl)
      rcases ouR_cases h w c kh kw sh sw 0 0 0 0 with ⟨e, he, h2⟩ | ⟨rr, qq, he, hf⟩
      · rw [he] at hou
        simp only [Prod.mk.injEq] at hou
        omega
      · rw [he] at hou
        simp only [Prod.mk.injEq, and_true] at hou
        obtain ⟨rfl, rfl⟩ := hou
        obtain ⟨-, ⟨i1, i2, i3, i4, -⟩, -, -, g1, g2⟩ := hf
        exact values_g a b m kh kw sh sw 0 0 0 0 wa lw wc ba lb bc sm ss um us z p lo hi h w c rr qq C r W hr ad n cap bd nb capb _
          (fun w' hb => greatest_any 5 a b m kh kw sh sw 0 0 0 0 wa lw wc ba lb bc sm ss um us z p lo hi h w c rr qq C r w' ((hb.block r hrz).trans hr) ad n cap xs (hX.below hb) hn s.hA s.hB i1 i2 i3 i4 (by omega) (by omega) (s.c3 (by decide)))
    · obtain rfl := hnb rfl
      exact values_a a b m kh kw sh sw tp lf bt rt wa lw wc ba lb bc sm ss um us z p lo hi h w c H V C r W hr ad nb cap xs hX hn6 bd capb ys hY
    · exact values_r a b m kh kw sh sw tp lf bt rt wa lw wc ba lb bc sm ss um us z p lo hi h w c H V C r W hr ad n cap xs hX hn6 bd nb capb
    · exact values_c a b m kh kw sh sw tp lf bt rt wa lw wc ba lb bc sm ss um us z p lo hi h w c H V C r W hr ad n cap xs hX hn6 bd nb capb
end Go.Proofs.Ytdknofbnhjdfjaa

/- What tensor of package plain returns. -/
namespace Go.Proofs.Ytdknofbnhjdfjaa
open Go.ChangeShapes Go.WideShapes Go.ChangeAt Go.RowKit
set_option linter.unusedVariables false
set_option maxRecDepth 100000 in
set_option maxHeartbeats 4000000 in
theorem tensor_v (k a b m kh kw sh sw tp lf bt rt : Int) (wa : Option Addr) (lw wc : Nat) (ba : Option Addr) (lb bc : Nat) (sm ss um us z p lo hi h w c H V C : Int) (r : Nat) (W : World) (hr : W.heap[r]? = some (.cells #[.int .i64 k, .int .i64 a, .int .i64 b, .int .i64 m, .int .i64 kh, .int .i64 kw, .int .i64 sh, .int .i64 sw, .int .i64 tp, .int .i64 lf, .int .i64 bt, .int .i64 rt, .slice wa lw wc, .slice ba lb bc, .int .i64 sm, .int .i64 ss, .int .i64 um, .int .i64 us, .int .i64 z, .int .i64 p, .int .i64 lo, .int .i64 hi, .int .i64 h, .int .i64 w, .int .i64 c, .int .i64 H, .int .i64 V, .int .i64 C] 76 (0, 0))) (ad : Option Addr) (n cap : Nat) (bd : Option Addr) (nb capb : Nat) (VS : List Int) (hl : VS.length ≤ 1000000) (hV : Hid (Calls Try.prog 52 #[.pointer (some ⟨r, 0, none⟩), .slice ad n cap, .slice bd nb capb] W fun e w' => (∃ v, e = .returned v ∧ Own .i64 2 w' W.heap.size v VS) ∧ Below W.heap.size W w')) :
    Calls Try.prog 30 #[.pointer (some ⟨r, 0, none⟩), .slice ad n cap, .slice bd nb capb] W fun e w' => (∃ v, e = .returned v ∧ Own .i8 62 w' W.heap.size v (fiL VS z lo hi)) ∧ Below W.heap.size W w' := by
  have hrz := lt_of_heap hr
  have HR : Hid (W.heap[r]? = some (.cells #[.int .i64 k, .int .i64 a, .int .i64 b, .int .i64 m, .int .i64 kh, .int .i64 kw, .int .i64 sh, .int .i64 sw, .int .i64 tp, .int .i64 lf, .int .i64 bt, .int .i64 rt, .slice wa lw wc, .slice ba lb bc, .int .i64 sm, .int .i64 ss, .int .i64 um, .int .i64 us, .int .i64 z, .int .i64 p, .int .i64 lo, .int .i64 hi, .int .i64 h, .int .i64 w, .int .i64 c, .int .i64 H, .int .i64 V, .int .i64 C] 76 (0, 0))) := hr
  have hwf : Wf .i8 (fiL VS z lo hi) := fun v hv => mk_i8 (fiL_i8 _ _ _ _ v hv)
  have HM : Hid (∀ y u, VS[y]? = some u → (fiL VS z lo hi).getD y 0 = Fx.fiV u z lo hi) := fun y u h => map_at h
  obtain ⟨N, hN⟩ : ∃ N, VS.length = N := ⟨_, rfl⟩
  have HL : Hid ((fiL VS z lo hi).length = N) := by unfold Hid fiL; rw [List.length_map]; exact hN
  have HNV : Hid (VS.length = N) := hN
  rw [hN] at hl
  clear hr hN
  obtain ⟨ys, hys⟩ : ∃ ys, fiL VS z lo hi = ys := ⟨_, rfl⟩
  rw [hys] at hwf HL HM ⊢
  clear hys
  go_enter Try.func30, Try.ntmps30
  go_wp2_with fail
  refine hV.out.mono ?_
  rintro e w1 ⟨⟨v, rfl, hO⟩, hb1⟩
  obtain ⟨va, vc, rfl, hrow, -⟩ := hO.row
  rw [HNV.out] at hrow ⊢
  have HRw : Hid (IRow .i64 w1 va N vc VS) := hrow
  have Hb1 : Hid (Below W.heap.size W w1) := hb1
  clear hO hrow hV hb1
  go_wp2_with (at_make; refine wpList_mak kt_i8 rfl _ rfl N _ rfl rfl (by omega) ?_; intro hnew)
  have HB0 : Hid (Bk .i8 62 _ w1.heap.size (fil ys 0)) := Bk.new hnew HL.out
  have HB1 : Hid (Below w1.heap.size w1 _) := bal w1 (.cells (Array.replicate N (Value.int .i8 0)) 62)
  clear hnew
  go_loopw [22] (fun i wr => ∃ y : Nat, y ≤ N ∧ i = .int .i64 y ∧ Bk .i8 62 wr w1.heap.size (fil ys y) ∧ Below w1.heap.size w1 wr) (fun i _ => N - (intOf i).toNat)
  case atStart => exact ⟨0, Nat.zero_le _, rfl, HB0.out, HB1.out⟩
  case round =>
    obtain ⟨y, hy, rfl, hB, hb⟩ := hrel
    clear HB0 HB1
    by_cases hlt : y < N
    · obtain ⟨x, u, rfl, hu, -, hz, -⟩ := (HRw.out.below hb).at hlt
      have HE : Hid (ys.getD y 0 = Fx.fiV u z lo hi) := HM.out y u hz
      have h8 := fiV_i8 (v := u) (z := z) (lo := lo) (hi := hi)
      have hF : Hid (∀ q, Calls Try.prog 16 #[.int .i64 u, .int .i64 z, .int .i64 lo, .int .i64 hi] (wr.drewN q) fun e w' => e = .returned (.tuple #[.int .i64 (Fx.fiV u z lo hi), .int .i64 (Fx.fiE z lo hi)]) ∧ ∃ m, w' = (wr.drewN q).drewN m) := fun q => (Fx.finish_any u z lo hi _).mono fun e w' ⟨h1, h2⟩ => ⟨h1, 0, h2⟩
      obtain ⟨F, hFe⟩ : ∃ F, Fx.fiV u z lo hi = F := ⟨_, rfl⟩
      obtain ⟨E, hEe⟩ : ∃ E, Fx.fiE z lo hi = E := ⟨_, rfl⟩
      rw [hFe] at HE h8 hF
      rw [hEe] at hF
      obtain ⟨g1, g2⟩ := h8
      have hw8 : IntKind.i8.wrap F = F := by simp [IntKind.wrap, IntKind.bits, IntKind.signed]; omega
      have HB : Hid (Bk .i8 62 wr w1.heap.size (fil ys y)) := hB
      obtain ⟨c1, f1, z1⟩ := cells_at ((hb.block r (Nat.lt_of_lt_of_le hrz Hb1.out.size)).trans ((Hb1.out.block r hrz).trans HR.out))
      clear hB hz hFe hEe
      go_wp2
      go_quiet ((go_at_call 16; exact Calls.quiet_of (hF.out _)))
      have hB3 := HB.out.below (dbel wr nq)
      obtain ⟨hc, hf, hs⟩ := hB3.at (p := y) (by rw [fil_len _ (by rw [HL.out]; omega), HL.out]; exact hlt)
      have HS : Hid (Bk .i8 62 ((wr.drewN nq).setCell ⟨w1.heap.size, y, none⟩ (.int .i8 F)) w1.heap.size (fil ys (y + 1))) := by
        have := hB3.set (p := y) F
        rw [← HE.out, fil_set (by rw [HL.out]; exact hlt), HE.out] at this
        exact this
      have Hbb : Hid (Below w1.heap.size w1 (wr.drewN nq)) := btr hb (dbel wr nq)
      clear hB3 HB hF hb c1 f1
      go_wp2
      go_roundw
      case rel => exact ⟨y + 1, by omega, by go_num, HS.out, Hbb.out.setCell (p := ⟨w1.heap.size, y, none⟩) (Nat.le_refl _) _⟩
      case measure => simp [intOf]; omega
    · obtain rfl : y = N := by omega
      have hO : Hid (Own .i8 62 wr W.heap.size (.slice (some ⟨w1.heap.size, 0, none⟩) y y) ys) := by
        have e := HL.out
        subst e
        rw [fil_all] at hB
        exact own_full hB hwf (by unfold maxLen; omega) Hb1.out.size
      have Hbb : Hid (Below W.heap.size W wr) := btr Hb1.out hb
      clear hB hb
      go_wp2
      go_ret
      exact ⟨⟨_, rfl, hO.out⟩, Hbb.out⟩
theorem tensor_any (k a b m kh kw sh sw tp lf bt rt : Int) (wa : Option Addr) (lw wc : Nat) (ba : Option Addr) (lb bc : Nat) (sm ss um us z p lo hi h w c H V C : Int) (r : Nat) (W : World) (hr : W.heap[r]? = some (.cells #[.int .i64 k, .int .i64 a, .int .i64 b, .int .i64 m, .int .i64 kh, .int .i64 kw, .int .i64 sh, .int .i64 sw, .int .i64 tp, .int .i64 lf, .int .i64 bt, .int .i64 rt, .slice wa lw wc, .slice ba lb bc, .int .i64 sm, .int .i64 ss, .int .i64 um, .int .i64 us, .int .i64 z, .int .i64 p, .int .i64 lo, .int .i64 hi, .int .i64 h, .int .i64 w, .int .i64 c, .int .i64 H, .int .i64 V, .int .i64 C] 76 (0, 0))) (s : Opd k b m kh kw sh sw tp lf bt rt lw lb sm ss um us z p lo hi h w c H V C) (zs bs : List Int) (hZ : IRow .i16 W wa lw wc zs) (hB : IRow .i32 W ba lb bc bs) (hlw : lw * 2 ≤ 140737488351232) (hlb : lb * 4 ≤ 140737488351232) (ad : Option Addr) (n cap : Nat) (xs : List Int) (hX : IRow .i8 W ad n cap xs) (hn : (n : Int) = h * w * c) (bd : Option Addr) (nb capb : Nat) (ys : List Int) (hY : IRow .i8 W bd nb capb ys) (hnb : k = 6 → nb = n) :
    Calls Try.prog 30 #[.pointer (some ⟨r, 0, none⟩), .slice ad n cap, .slice bd nb capb] W fun e w' => (∃ v, e = .returned v ∧ Own .i8 62 w' W.heap.size v (teL k kh kw sh sw tp lf bt rt sm ss um us z p lo hi h w c H V C zs bs xs ys)) ∧ Below W.heap.size W w' := by
  have hl := vaL_len s (zs := zs) (bs := bs) (y := ys) (show (xs.length : Int) = h * w * c by rw [hX.1]; exact hn)
  have := (vS_bd s.hB).2
  exact tensor_v k a b m kh kw sh sw tp lf bt rt wa lw wc ba lb bc sm ss um us z p lo hi h w c H V C r W hr ad n cap bd nb capb _ (by omega) (values_any k a b m kh kw sh sw tp lf bt rt wa lw wc ba lb bc sm ss um us z p lo hi h w c H V C r W hr s zs bs hZ hB hlw hlb ad n cap xs hX hn bd nb capb ys hY hnb)
end Go.Proofs.Ytdknofbnhjdfjaa

/- Rows of lists of int8 in memory; slices.Clone. -/
namespace Go.Proofs.Ytdknofbnhjdfjaa
open Go.ChangeShapes Go.WideShapes Go.ChangeAt Go.RowKit
set_option linter.unusedVariables false
/-- Lists that a call made, none in the block of another. -/
def Ells (w : World) (base : Nat) (ss : List Value) (Ts : List (List Int)) : Prop :=
  ss.length = Ts.length ∧ (∀ i, i < ss.length → Own .i8 62 w base (ss.getD i (.slice none 0 0)) (Ts.getD i [])) ∧
    ∀ i j b, i < ss.length → j < ss.length → (ss.getD i (.slice none 0 0)).ownBlock = some b → (ss.getD j (.slice none 0 0)).ownBlock = some b → i = j
theorem Ells.below {w w' : World} {base : Nat} {ss : List Value} {Ts : List (List Int)} (h : Ells w base ss Ts) (q : Below w.heap.size w w') : Ells w' base ss Ts := ⟨h.1, fun i hi => (h.2.1 i hi).below q, h.2.2⟩
theorem Ells.base {w : World} {b c : Nat} {ss : List Value} {Ts : List (List Int)} (h : Ells w b ss Ts) (q : c ≤ b) : Ells w c ss Ts := ⟨h.1, fun i hi => (h.2.1 i hi).base q, h.2.2⟩
theorem Ells.nil (w : World) (base : Nat) : Ells w base [] [] := ⟨rfl, fun i hi => by simp at hi, fun i j b hi => by simp at hi⟩
/-- What changes a block of another type leaves them. -/
theorem Ells.grown {w w' : World} {base : Nat} {ss : List Value} {Ts : List (List Int)} {row : Option Nat} (h : Ells w base ss Ts) (q : w.grownBy w' row) (hne : ∀ b, row = some b → ∀ c, w.heap[b]? ≠ some (.cells c 62 (0, 0))) : Ells w' base ss Ts := ⟨h.1, fun i hi => (h.2.1 i hi).grown q hne, h.2.2⟩
theorem getD_app_l {α : Type} {l r : List α} {i : Nat} {d : α} (h : i < l.length) : (l ++ r).getD i d = l.getD i d := by simp only [List.getD]; rw [List.getElem?_append_left h]
theorem getD_app_one {α : Type} {l : List α} {x d : α} : (l ++ [x]).getD l.length d = x := by simp [List.getD]
theorem own_lt {k : IntKind} {T : TypeId} {w : World} {base b : Nat} {v : Value} {zs : List Int} (h : Own k T w base v zs) (hb : v.ownBlock = some b) : b < w.heap.size := by
  rcases h.shape with ⟨rfl, _⟩ | ⟨g, cap, rfl, _, hl, _⟩
  · simp [Value.ownBlock] at hb
  · obtain rfl : g = b := by simpa [Value.ownBlock] using hb
    exact hl
/-- One more, that is new. -/
theorem Ells.add {w w' : World} {base : Nat} {ss : List Value} {Ts : List (List Int)} {s : Value} {X : List Int} (h : Ells w base ss Ts) (q : Below w.heap.size w w') (hs : Own .i8 62 w' w.heap.size s X) (hb : base ≤ w.heap.size) : Ells w' base (ss ++ [s]) (Ts ++ [X]) := by
  obtain ⟨h1, h2, h3⟩ := h
  have hlt : ∀ i b, i < ss.length → (ss.getD i (.slice none 0 0)).ownBlock = some b → b < w.heap.size := fun i b hi e => own_lt (h2 i hi) e
  have hge : ∀ b, s.ownBlock = some b → w.heap.size ≤ b := fun b e => hs.block e
  refine ⟨by simp [h1], fun i hi => ?_, fun i j b hi hj e1 e2 => ?_⟩
  · simp only [List.length_append, List.length_cons, List.length_nil] at hi
    by_cases e : i = ss.length
    · subst e
      rw [getD_app_one]
      rw [h1, getD_app_one]
      exact hs.base hb
    · rw [getD_app_l (by omega), getD_app_l (by omega)]
      exact (h2 i (by omega)).below q
  · simp only [List.length_append, List.length_cons, List.length_nil] at hi hj
    by_cases ei : i = ss.length
    · by_cases ej : j = ss.length
      · omega
      · subst ei
        rw [getD_app_one] at e1
        rw [getD_app_l (by omega)] at e2
        have := hge b e1
        have := hlt j b (by omega) e2
        omega
    · by_cases ej : j = ss.length
      · subst ej
        rw [getD_app_one] at e2
        rw [getD_app_l (by omega)] at e1
        have := hge b e2
        have := hlt i b (by omega) e1
        omega
      · rw [getD_app_l (by omega)] at e1 e2
        exact h3 i j b (by omega) (by omega) e1 e2
/-- A row of slices that the call owns. -/
def ORs (w : World) (base : Nat) (v : Value) (ss : List Value) : Prop := w.ownsRow base 27 1 v ss.length ss
theorem ORs.below {w w' : World} {base : Nat} {v : Value} {ss : List Value} (h : ORs w base v ss) (q : Below w.heap.size w w') : ORs w' base v ss := by
  refine World.ownsRow.kept h (row := none) ⟨q.os, q.tape, q.output, q.size, fun i hi _ => q.block i hi⟩ ?_
  cases e : v.ownBlock with
  | none => exact .inl rfl
  | some b => exact .inr (by simp)
theorem ORs.slice {w : World} {base : Nat} {v : Value} {ss : List Value} (h : ORs w base v ss) : ∃ a cap, v = .slice a ss.length cap := by
  rcases h.2 with ⟨rfl, q⟩ | ⟨g, cap, cur, rfl, -⟩
  · exact ⟨_, _, by rw [q]⟩
  · exact ⟨_, _, rfl⟩
theorem ORs.at {w : World} {base : Nat} {v : Value} {ss : List Value} (h : ORs w base v ss) (h0 : 0 < ss.length) : ∃ g cap, v = .slice (some ⟨g, 0, none⟩) ss.length cap ∧ base ≤ g ∧ g < w.heap.size ∧ ss.length ≤ cap ∧ cap ≤ maxLen ∧ (∀ i, i < ss.length → w.cell? ⟨g, i, none⟩ = some (ss.getD i (.slice none 0 0))) ∧ ∃ cur, w.heap[g]? = some (.cells cur 27 (0, 0)) := by
  rcases h.2 with ⟨-, q⟩ | ⟨g, cap, cur, rfl, h2, h3, h4, h5, h6, h7⟩
  · omega
  · refine ⟨g, cap, rfl, h2, lt_of_heap h3, h4, h5, fun i hi => ?_, cur, h3⟩
    rw [(cells_at h3).1]
    have : (cur.toList.take (ss.length * 1))[i]? = ss[i]? := by rw [h7]
    rw [List.getElem?_take, if_pos (by omega)] at this
    rw [List.getD_eq_getElem?_getD, List.getElem?_eq_getElem hi] at *
    simpa using this
/-- A row of lists: the slices lie in memory, each its numbers. -/
def LLs (w : World) (base : Nat) (v : Value) (Ts : List (List Int)) : Prop := ∃ ss, ORs w base v ss ∧ Ells w base ss Ts
theorem LLs.below {w w' : World} {base : Nat} {v : Value} {Ts : List (List Int)} (h : LLs w base v Ts) (q : Below w.heap.size w w') : LLs w' base v Ts := by
  obtain ⟨ss, h1, h2⟩ := h
  exact ⟨ss, h1.below q, h2.below q⟩
/-- What a row of lists reads as. -/
def TRd (w : World) (v : Value) (Ts : List (List Int)) : Prop :=
  ∃ a cap, v = .slice a Ts.length cap ∧ Ts.length ≤ cap ∧ cap ≤ maxLen ∧ (0 < Ts.length → ∃ g, a = some ⟨g, 0, none⟩ ∧ ∀ i, i < Ts.length → ∃ ad c, w.cell? ⟨g, i, none⟩ = some (.slice ad (Ts.getD i []).length c) ∧ IRow .i8 w ad (Ts.getD i []).length c (Ts.getD i []))
theorem LLs.rd {w : World} {base : Nat} {v : Value} {Ts : List (List Int)} (h : LLs w base v Ts) : TRd w v Ts := by
  obtain ⟨ss, h1, h2⟩ := h
  by_cases h0 : 0 < ss.length
  · obtain ⟨g, cap, rfl, -, -, q1, q2, q3, -⟩ := h1.at h0
    refine ⟨_, cap, by rw [h2.1], by rw [← h2.1]; exact q1, q2, fun _ => ⟨g, rfl, fun i hi => ?_⟩⟩
    have hi' : i < ss.length := by rw [h2.1]; exact hi
    obtain ⟨ad, c, e, hr, -⟩ := (h2.2.1 i hi').row
    exact ⟨ad, c, by rw [q3 i hi', e], hr⟩
  · obtain ⟨a, cap, rfl⟩ := h1.slice
    have e0 : Ts.length = 0 := by rw [← h2.1]; omega
    rcases h1.2 with ⟨q, q'⟩ | ⟨g, cap', cur, q, -, -, q4, q5, -⟩
    · simp only [Value.slice.injEq] at q
      obtain ⟨rfl, -, rfl⟩ := q
      exact ⟨none, 0, by rw [h2.1], by omega, by unfold maxLen; omega, fun h => by omega⟩
    · simp only [Value.slice.injEq] at q
      obtain ⟨rfl, -, rfl⟩ := q
      exact ⟨_, cap, by rw [h2.1], by omega, q5, fun h => by omega⟩
theorem TRd.below {w w' : World} {v : Value} {Ts : List (List Int)} (h : TRd w v Ts) (q : Below w.heap.size w w') : TRd w' v Ts := by
  obtain ⟨a, cap, h1, h2, h3, h4⟩ := h
  refine ⟨a, cap, h1, h2, h3, fun h0 => ?_⟩
  obtain ⟨g, e, hc⟩ := h4 h0
  refine ⟨g, e, fun i hi => ?_⟩
  obtain ⟨ad, c, h5, h6⟩ := hc i hi
  exact ⟨ad, c, (q.cell (World.block_lt_of_cell? w _ h5)).trans h5, h6.below q⟩
theorem TRd.at {w : World} {a : Option Addr} {n cap i : Nat} {Ts : List (List Int)} (h : TRd w (.slice a n cap) Ts) (hi : i < n) : ∃ g ad c, a = some ⟨g, 0, none⟩ ∧ w.cell? ⟨g, i, none⟩ = some (.slice ad (Ts.getD i []).length c) ∧ IRow .i8 w ad (Ts.getD i []).length c (Ts.getD i []) := by
  obtain ⟨a', cap', e, -, -, h4⟩ := h
  simp only [Value.slice.injEq] at e
  obtain ⟨rfl, rfl, rfl⟩ := e
  obtain ⟨g, rfl, hc⟩ := h4 (by omega)
  obtain ⟨ad, c, h5, h6⟩ := hc i hi
  exact ⟨g, ad, c, rfl, h5, h6⟩
theorem TRd.len {w : World} {a : Option Addr} {n cap : Nat} {Ts : List (List Int)} (h : TRd w (.slice a n cap) Ts) : Ts.length = n ∧ n ≤ cap ∧ cap ≤ maxLen := by
  obtain ⟨a', cap', e, h2, h3, -⟩ := h
  simp only [Value.slice.injEq] at e
  obtain ⟨rfl, rfl, rfl⟩ := e
  exact ⟨rfl, h2, h3⟩
/-! ### A row with room -/
def LG (w : World) (g cap : Nat) (ss : List Value) : Prop := ∃ cur : Array Value, w.heap[g]? = some (.cells cur 27 (0, 0)) ∧ cur.size = cap ∧ ss.length ≤ cap ∧ cur.toList.take ss.length = ss
theorem LG.below {w w' : World} {g cap : Nat} {ss : List Value} (h : LG w g cap ss) (q : Below w.heap.size w w') : LG w' g cap ss := by
  obtain ⟨cur, h1, h2⟩ := h
  exact ⟨cur, (q.block g (lt_of_heap h1)).trans h1, h2⟩
theorem LG.at {w : World} {g cap : Nat} {ss : List Value} (h : LG w g cap ss) {i : Nat} (hi : i < ss.length) : w.cell? ⟨g, i, none⟩ = some (ss.getD i (.slice none 0 0)) := by
  obtain ⟨cur, h1, h2, h3, h4⟩ := h
  rw [(cells_at h1).1]
  have : (cur.toList.take ss.length)[i]? = ss[i]? := by rw [h4]
  rw [List.getElem?_take, if_pos hi] at this
  rw [List.getD_eq_getElem?_getD, List.getElem?_eq_getElem hi] at *
  simpa using this
theorem LG.own {w : World} {base g cap : Nat} {ss : List Value} (h : LG w g cap ss) (hb : base ≤ g) (hc : cap ≤ 1000) : ORs w base (.slice (some ⟨g, 0, none⟩) ss.length cap) ss := by
  obtain ⟨cur, h1, h2, h3, h4⟩ := h
  exact ⟨by simp, .inr ⟨g, cap, cur, rfl, hb, h1, h3, by unfold maxLen; omega, by omega, by rw [Nat.mul_one]; exact h4⟩⟩
theorem LG.add {w : World} {g cap : Nat} {ss : List Value} (h : LG w g cap ss) (hr : ss.length < cap) (s : Value) : LG (w.setCell ⟨g, ss.length, none⟩ s) g cap (ss ++ [s]) := by
  obtain ⟨cur, h1, h2, h3, h4⟩ := h
  refine ⟨_, heap_setCell_at h1, by simp [h2], by simp; omega, ?_⟩
  have hsz : cur.toList.length = cap := by simpa using h2
  simp only [List.length_append, List.length_cons, List.length_nil, Array.toList_setIfInBounds]
  apply List.ext_getElem?
  intro j
  rw [List.getElem?_take]
  have hl : (cur.toList.take ss.length).length = ss.length := by rw [List.length_take]; omega
  by_cases q1 : j < ss.length
  · rw [if_pos (by omega), List.getElem?_append_left q1, List.getElem?_set_ne (by omega), ← h4, List.getElem?_take, if_pos q1]
  · by_cases q2 : j = ss.length
    · subst q2
      rw [if_pos (by omega), List.getElem?_set_self (by omega), List.getElem?_append_right (Nat.le_refl _), Nat.sub_self]; rfl
    · rw [if_neg (by omega), List.getElem?_eq_none (by simp; omega)]
theorem LG.spare {w : World} {g cap n : Nat} {ss : List Value} (h : LG w g cap ss) (hn : n < cap) : (w.cell? ⟨g, n, none⟩).isSome = true ∧ w.frozen? ⟨g, n, none⟩ = false := by
  obtain ⟨cur, h1, h2, h3, h4⟩ := h
  refine ⟨?_, (cells_at h1).2.1 _⟩
  rw [(cells_at h1).1, Array.getElem?_eq_getElem (by omega)]
  rfl
theorem Try.infoTT : (Try.prog.info? 27).map (fun i => (i.zero, i.size, i.bytes)) = some (some (.slice none 0 0), 1, 24) := by kernel_rfl
/-- 'append' of one list, where there is room. -/
theorem wp_apR {w : World} {o : Oper} {a : Act} {K : Act → World → Prop} {Q : Exit → Act → World → Prop} (hg : o.guard = none) (s x : Operand) (hop : o.op = Op.call { callee := Callee.builtin Builtin.append, args := #[s, x], argTypes := #[49, 49] })
    (g cap : Nat) (ss : List Value) (n : Nat) (hn : ss.length = n) (hs : a.eval s = .slice (some ⟨g, 0, none⟩) n cap) (b : Nat) (u : Value) (hx : a.eval x = .slice (some ⟨b, 0, none⟩) 1 1) (hb : w.heap[b]? = some (.cells #[u] 27 (0, 0))) (h1 : u.oneCell' = true)
    (hL : LG w g cap ss) (hroom : n < cap) (h : K (a.put o.dst (.slice (some ⟨g, 0, none⟩) (n + 1) cap)) (w.setCell ⟨g, n, none⟩ u)) : o.wp Try.prog a w K Q := by
  obtain ⟨i0, hi0, hz0, hz1, hz2⟩ := info_parts Try.infoTT
  have := step_append_room (P := Try.prog) (ops := #[]) (o := o) (a := a) (w := w) (K := K) (Q := Q) (E := False) hg s x 49 hop 27 i0 1 Try.underlying49 hi0 hz1 g 0 n cap hs ⟨b, 0, none⟩ 1 1 [u] hx rfl
    (fun j v hj => by
      have hj0 : j = 0 := by have := (List.getElem?_eq_some_iff.1 hj).1; simp at this; exact this
      subst hj0
      rw [Addr.add_lit, (cells_at hb).1]
      simpa using hj) (fun v hv => by simp at hv; rw [hv]; exact h1) (by omega)
    (fun j hj => by
      have hj0 : j = 0 := by simpa using hj
      subst hj0
      have := hL.spare hroom
      simpa using this) (by simpa [World.setCells] using h)
  rwa [if_pos (by simp [Region.wanted, hg])] at this
theorem wpList_apR {w : World} {ops : Array Oper} {rest : List Oper} {o : Oper} {a : Act} {Q : Exit → Act → World → Prop} (hg : o.guard = none) (s x : Operand) (hop : o.op = Op.call { callee := Callee.builtin Builtin.append, args := #[s, x], argTypes := #[49, 49] })
    (g cap : Nat) (ss : List Value) (n : Nat) (hn : ss.length = n) (hs : a.eval s = .slice (some ⟨g, 0, none⟩) n cap) (b : Nat) (u : Value) (hx : a.eval x = .slice (some ⟨b, 0, none⟩) 1 1) (hb : w.heap[b]? = some (.cells #[u] 27 (0, 0))) (h1 : u.oneCell' = true)
    (hL : LG w g cap ss) (hroom : n < cap) (h : wpList Try.prog ops Q rest (a.put o.dst (.slice (some ⟨g, 0, none⟩) (n + 1) cap)) (w.setCell ⟨g, n, none⟩ u)) : wpList Try.prog ops Q (o :: rest) a w :=
  wpList_plain hg fun K hK => wp_apR hg s x hop g cap ss n hn hs b u hx hb h1 hL hroom (hK _ _ h)
theorem stepA {ops : Array Oper} {md : Region.Mode} {C : World → Prop} {Q : Exit → Act → World → Prop} (i : Nat) {o : Oper} {fuel : Nat} {listed : Array Bool} {a : Act} {w : World} (hC : C w) (hr : Region.ready md ops listed = [i]) (ho : ops[i]? = some o) (hg : o.guard = none)
    (s x : Operand) (hop : o.op = Op.call { callee := Callee.builtin Builtin.append, args := #[s, x], argTypes := #[49, 49] })
    (g cap : Nat) (ss : List Value) (n : Nat) (hn : ss.length = n) (hs : a.eval s = .slice (some ⟨g, 0, none⟩) n cap) (b : Nat) (u : Value) (hx : a.eval x = .slice (some ⟨b, 0, none⟩) 1 1) (hb : w.heap[b]? = some (.cells #[u] 27 (0, 0))) (h1 : u.oneCell' = true)
    (hL : LG w g cap ss) (hroom : n < cap) (h : wpAnyC Fence.wide 3 Try.prog md ops C Q fuel (listed.setIfInBounds i true) (a.put o.dst (.slice (some ⟨g, 0, none⟩) (n + 1) cap)) (w.setCell ⟨g, n, none⟩ u)) : wpAnyC Fence.wide 3 Try.prog md ops C Q (fuel + 1) listed a w :=
  stepW i hC hr ho hg fun K hK => wp_apR hg s x hop g cap ss n hn hs b u hx hb h1 hL hroom (hK _ _ h)
/-- 'make' of none, with room for so many lists. -/
theorem wpList_mkR {w : World} {ops : Array Oper} {rest : List Oper} {o : Oper} {a : Act} {Q : Exit → Act → World → Prop} (hg : o.guard = none) (l c : Operand) (hop : o.op = Op.makeSlice 49 l c)
    (m : Nat) (M : Int) (hl : a.eval l = .int .i64 0) (hc : a.eval c = .int .i64 M) (hM : M = (m : Int)) (hm : m ≤ 1000)
    (hK : ∀ w', LG w' w.heap.size m [] → Below w.heap.size w w' → wpList Try.prog ops Q rest (a.put o.dst (.slice (some ⟨w.heap.size, 0, none⟩) 0 m)) w') : wpList Try.prog ops Q (o :: rest) a w := by
  obtain ⟨i0, hi, hz0, hz1, hz2⟩ := info_parts Try.infoTT
  subst hM
  refine wpList_plain hg fun K hK' => ?_
  have hr := run_make (P := Try.prog) w 49 27 i0 (.slice none 0 0) Try.underlying49 hi hz0 .i64 .i64 ((0 : Nat) : Int) m (by omega) (by omega) (by rw [hz2]; omega) (by omega)
  simp only [Int.toNat_natCast, hz1] at hr
  unfold Oper.wp
  simp only [execOp, hop, hl, hc]
  simp [Result.andThen]
  have hr' := hr
  simp only [Int.natCast_zero] at hr'
  rw [hr']
  exact hK' _ _ (hK _ ⟨_, heap_alloc_new w _, by rw [size_madeCells, Nat.mul_one], Nat.zero_le _, by simp⟩ (bal _ _))
/-! ### slices.Clone -/
set_option maxHeartbeats 1000000 in
theorem clone8_any (x : Addr) (n cap : Nat) (xs : List Int) (W : World) (hX : IRow .i8 W (some x) n cap xs) (hn : n ≤ 1000000) :
    Calls Try.prog 29 #[.slice (some x) n cap] W fun e w' => (∃ v, e = .returned v ∧ Own .i8 62 w' W.heap.size v xs) ∧ Below W.heap.size W w' := by
  have hxl : Hid (xs.length = n) := hX.1
  have q22 : ∀ (w : World) (a : Option Addr) (n c n' c' : Nat), (binOp .eql 27 (.slice a n c) (.slice none n' c')).run Try.prog w = .ok (.bool a.isNone) w := fun w a n c n' c' => Lib.run_eql_slice_nil w _ _ a n c n' c' Try.underlying27
  have own0 : Own .i8 62 (W.alloc (.cells #[] 62)) W.heap.size (.slice (some ⟨W.heap.size, 0, none⟩) 0 0) [] := own_lit .i8 62 W W.heap.size [] (Wf.nil _) (by unfold maxLen; simp) (Nat.le_refl _)
  have b0 : Below W.heap.size W (W.alloc (.cells #[] 62)) := bal _ _
  go_enter Try.func29, Try.ntmps29
  go_wp2_with (at_builtin; refine wpList_app kt_i8 rfl (.tmp 5) (.tmp 6) rfl W.heap.size (.slice (some ⟨W.heap.size, 0, none⟩) 0 0) [] xs rfl own0 _ _ _ rfl (hX.below b0) (by have := hxl.out; simp; omega) (by simp) ?_; intro v1 w1 own1 gr1 nn1)
  go_ret
  exact ⟨⟨_, rfl, own1⟩, own0.bel b0 gr1 (Nat.le_refl _) b0.size⟩
end Go.Proofs.Ytdknofbnhjdfjaa
