/- A region that draws its order, some of whose operations write: an operation that reads, and reads the same in every world that the region passes through, may be taken first; whole structs that are loaded and stored there. What find of package terms returns: the op that is asked, with the shapes that it reads and makes; the error. What find of package terms returns of an op that is there. The op that is asked, with all that is known of it; what Length, Channels and Positions of package terms return. What Length, Channels and Positions of package terms return. The document's size of a number, and a size with a sign: for every argument that fits its type. Quotients rounded half away from zero, as plain numbers. What the inner functions of package fixq, Shift, Mean and Finish return: each for every argument that fits its type. What Valid and Apply of package fixq return: each for every argument that fits its type. -/
import Derived.Test.YtcjnhchjikcigaaGr01
import Derived.Test.YtcjnhchjikcigaaGr14
import Derived.Test.YtcjnhchjikcigaaGr17
import Derived.Test.YtcjnhchjikcigaaGr23
import Derived.OrdersIn
import Derived.TacticsIn
import Derived.RegionIn
import Derived.Laws.Tables
import Derived.Laws.ResultCell
import Derived.BigQuiet
import Derived.Below
import Derived.WalkSmall
/- A region that draws its order, some of whose operations write: an operation that reads, and reads the same in every world that the region passes through, may be taken first; whole structs that are loaded and stored there. -/
namespace Go.Proofs.Ytcjnhchjikcigaa
open Go.ChangeShapes Go.WideShapes Go.ChangeAt Go.RowKit
set_option linter.unusedVariables false
section
variable {F : Fence} {n : Nat} {P : Program} {ops : Array Oper} {md : Region.Mode} {C : World → Prop} {Q : Exit → Act → World → Prop}
/-- It reads, the same in every world of the class; or it is not wanted. -/
def YieldsC (P : Program) (ops : Array Oper) (C : World → Prop) (o : Oper) (v : Value) (a : Act) : Prop :=
  ((Region.wanted o (yielded ops a.tmps) = true ∧ ∀ w, C w → (execOp a.eval o).run P w = .ok (.value v) w) ∨ (Region.wanted o (yielded ops a.tmps) = false ∧ v = undef)) ∧ ∀ w, o.about P w a.eval = none
theorem YieldsC.of_same {o : Oper} {v : Value} {a a' : Act} (hy : YieldsC P ops C o v a) (he : execOp a'.eval o = execOp a.eval o)
    (hw : Region.wanted o (yielded ops a'.tmps) = Region.wanted o (yielded ops a.tmps)) (hb : ∀ w, o.about P w a'.eval = o.about P w a.eval) : YieldsC P ops C o v a' := by
  unfold YieldsC at *
  rw [he, hw]
  exact ⟨hy.1, fun w => by rw [hb w]; exact hy.2 w⟩
theorem YieldsC.wpOpIn {i : Nat} {o : Oper} {v : Value} {a : Act} (hro : F.round = none) (hi : ops[i]? = some o) (hy : YieldsC P ops C o v a) {K : Act → World → Prop} {w : World} (hC : C w) (h : K (a.put o.dst v) w) : wpOpIn F n P ops Q i K a w := by
  unfold Go.wpOpIn
  simp only [hi]
  have hab : ∀ f, o.about P w a.eval = some f → F.fn f := fun f hf => by rw [hy.2 w] at hf; cases hf
  rcases hy.1 with ⟨hw, hv⟩ | ⟨hw, rfl⟩
  · simp only [hw, if_true, Oper.wpIn, hro, Oper.semAt_none, hv w hC, Oper.uponIn]; exact ⟨hab, h⟩
  · simp only [hw, Bool.false_eq_true, if_false]; exact ⟨hab, h⟩
theorem wpOpIn_putC {j : Nat} {oi oj : Oper} {v : Value} (hro : F.round = none) (hj : ops[j]? = some oj) (hap : oi.apart ops oj = true)
    (hsi : ∀ cs b, oi.op ≠ .select cs b) (hsj : ∀ cs b, oj.op ≠ .select cs b)
    (hQ : ∀ c a w, Q (.panic c) (a.put oi.dst v) w → Q (.panic c) a w) {K : Act → World → Prop} {a : Act} {w : World}
    (hy : YieldsC P ops C oi v a) (h : wpOpIn F n P ops Q j K (a.put oi.dst v) w) :
    wpOpIn F n P ops Q j (fun a' w' => YieldsC P ops C oi v a' ∧ K (a'.put oi.dst v) w') a w := by
  obtain ⟨h1, h2, h3⟩ := Oper.apart_spec hap
  have keep : ∀ (a : Act), YieldsC P ops C oi v a → ∀ u, YieldsC P ops C oi v (a.put oj.dst u) := fun a hy u =>
    hy.of_same (execOp_put oi hsi a oj.dst u h3) (wanted_put oi a oj.dst u h3) (fun w => about_put oi w a oj.dst u h3)
  have keepD : ∀ d, YieldsC P ops C oi v { a with defers := d :: a.defers } := fun d => hy.of_same rfl rfl (fun _ => rfl)
  unfold wpOpIn at *
  simp only [hj] at *
  rw [wanted_put oj a oi.dst v h1, about_put oj w a oi.dst v h1] at h
  split
  · rename_i hw
    simp only [hw, if_true] at h
    unfold Oper.wpIn at *
    rw [about_put oj w a oi.dst v h1] at h
    refine ⟨h.1, ?_⟩
    have h := h.2
    rw [hro, Oper.semAt_none, execOp_put oj hsj a oi.dst v h1] at h
    rw [hro, Oper.semAt_none]
    generalize (execOp a.eval oj).run P w = r at *
    cases r with
    | ok x w' =>
      cases x <;> simp only [Oper.uponIn] at h ⊢
      case value u => exact ⟨keep a hy u, by rw [← Act.put_comm a v u h2]; exact h⟩
      case skip => exact ⟨keep a hy _, by rw [← Act.put_comm a v undef h2]; exact h⟩
      case defer d =>
        refine ⟨keep _ (keepD d) _, ?_⟩
        rw [← Act.put_comm _ v undef h2, ← Act.put_defers]
        exact h
      case enter f args =>
        refine ⟨h.1, CallsIn.mono h.2 fun e w'' he => ?_⟩
        cases e with
        | returned u => exact ⟨keep a hy u, by rw [← Act.put_comm a v u h2]; exact he⟩
        | panicked c => exact hQ _ _ _ he
        | outgrown => exact he
      case row row args => exact ⟨h.1, RowsIn.mono h.2 fun u w'' he => ⟨keep a hy u, by rw [← Act.put_comm a v u h2]; exact he⟩⟩
      case round l f tmps assign body =>
        refine ⟨h.1, RoundIn.mono h.2 fun e w'' he => ?_⟩
        cases e with
        | returned u => exact ⟨keep a hy u, by rw [← Act.put_comm a v u h2]; exact he⟩
        | panicked c => exact hQ _ _ _ he
        | outgrown => exact he
    | halt x w' =>
      cases x <;> simp only [Oper.uponIn] at h ⊢
      case panic u => exact hQ _ _ _ h
  · rename_i hw
    simp only [hw] at h
    exact ⟨h.1, keep a hy _, by rw [← Act.put_comm a v undef h2]; exact h.2⟩
/-- Whatever order is picked, every world that is passed through is of the class. -/
def wpAnyC (F : Fence) (n : Nat) (P : Program) (md : Region.Mode) (ops : Array Oper) (C : World → Prop) (Q : Exit → Act → World → Prop) : Nat → Array Bool → Act → World → Prop
  | 0, listed, a, w => C w ∧ Region.ready md ops listed = [] ∧ Q .normal a w
  | fuel + 1, listed, a, w => C w ∧ (Region.ready md ops listed = [] → Q .normal a w) ∧ ∀ i ∈ Region.ready md ops listed, wpOpIn F n P ops Q i (wpAnyC F n P md ops C Q fuel (listed.setIfInBounds i true)) a w
theorem any_of_C : ∀ (fuel : Nat) (listed : Array Bool) (a : Act) (w : World), wpAnyC F n P md ops C Q fuel listed a w → wpAnyIn F n P md ops Q fuel listed a w
  | 0, _, _, _, h => h.2
  | fuel + 1, _, _, _, h => ⟨h.2.1, fun i hi => wpOpIn_mono (fun a w => any_of_C fuel _ a w) (h.2.2 i hi)⟩
theorem wpAnyC.cls {fuel : Nat} {listed : Array Bool} {a : Act} {w : World} (h : wpAnyC F n P md ops C Q fuel listed a w) : C w := by
  cases fuel <;> exact h.1
theorem wpAnyC_first {i : Nat} {oi : Oper} {v : Value} (hro : F.round = none) (hi : ops[i]? = some oi) (hsel : ∀ (j : Nat) (o : Oper) cs b, ops[j]? = some o → o.op ≠ .select cs b)
    (hQ : ∀ c a w, Q (.panic c) (a.put oi.dst v) w → Q (.panic c) a w) :
    ∀ (fuel : Nat) (listed : Array Bool) (a : Act) (w : World),
      (∀ j oj, ops[j]? = some oj → j ≠ i → listed.getD j true = false → (∀ e ∈ oj.after, Region.binds md e = true → e.on ≠ i) → oi.apart ops oj = true) →
      i ∈ Region.ready md ops listed → YieldsC P ops C oi v a →
      wpAnyC F n P md ops C Q fuel (listed.setIfInBounds i true) (a.put oi.dst v) w → wpAnyC F n P md ops C Q (fuel + 1) listed a w := by
  intro fuel
  induction fuel with
  | zero =>
    intro listed a w _ hr hy H
    refine ⟨H.1, fun h => (by rw [h] at hr; cases hr), fun j hj => ?_⟩
    by_cases hji : j = i
    · subst hji; exact hy.wpOpIn hro hi H.1 H
    · have := ready_mono hj hji
      rw [H.2.1] at this
      cases this
  | succ fuel ih =>
    intro listed a w hfree hr hy H
    refine ⟨H.1, fun h => (by rw [h] at hr; cases hr), fun j hj => ?_⟩
    by_cases hji : j = i
    · subst hji; exact hy.wpOpIn hro hi H.1 H
    · have h1 := H.2.2 j (ready_mono hj hji)
      obtain ⟨hjun, oj, hoj, hall⟩ := mem_ready.1 hj
      have hnot : ∀ e ∈ oj.after, Region.binds md e = true → e.on ≠ i := fun e he hb heq => by
        have h1 := hall e he hb
        have h0 := (mem_ready.1 hr).1
        rw [heq] at h1
        rcases Nat.lt_or_ge i listed.size with h' | h'
        · simp [h'] at h0 h1; rw [h0] at h1; cases h1
        · simp [Array.getElem?_eq_none h'] at h1
      have h2 := wpOpIn_putC hro hoj (hfree j oj hoj hji hjun hnot) (fun cs b => hsel i oi cs b hi) (fun cs b => hsel j oj cs b hoj) hQ hy h1
      have hfree' : ∀ k ok, ops[k]? = some ok → k ≠ i → (listed.setIfInBounds j true).getD k true = false →
          (∀ e ∈ ok.after, Region.binds md e = true → e.on ≠ i) → oi.apart ops ok = true := fun k ok hk hki hun hno => by
        refine hfree k ok hk hki ?_ hno
        by_cases hjk : j = k
        · subst hjk; exact hjun
        · rw [getD_set_ne true hjk] at hun; exact hun
      refine wpOpIn_mono (fun a' w' h3 => ih (listed.setIfInBounds j true) a' w' hfree' (ready_mono hr (Ne.symm hji)) h3.1 ?_) h2
      rw [Array.setIfInBounds_comm _ _ hji]
      exact h3.2
/-- One that reads is taken first. -/
theorem takeC (i : Nat) {oi : Oper} {v : Value} {fuel : Nat} {listed : Array Bool} {a : Act} {w : World} (hro : F.round = none) (hi : ops[i]? = some oi)
    (hs : Region.noSelect ops = true) (hf : Region.free md ops listed i = true) (hr : (Region.ready md ops listed).contains i = true)
    (hQ : ∀ c a w, Q (.panic c) (a.put oi.dst v) w → Q (.panic c) a w) (hb : ∀ w, oi.about P w a.eval = none) (hw : Region.wanted oi (yielded ops a.tmps) = true) (hy : ∀ w, C w → (execOp a.eval oi).run P w = .ok (.value v) w)
    (h : wpAnyC F n P md ops C Q fuel (listed.setIfInBounds i true) (a.put oi.dst v) w) : wpAnyC F n P md ops C Q (fuel + 1) listed a w :=
  wpAnyC_first hro hi (Region.noSelect_spec hs) hQ fuel listed a w (Region.free_spec hi hf) (by simpa using hr) ⟨.inl ⟨hw, hy⟩, hb⟩ h
/-- The only one that may come up. -/
theorem stepC (i : Nat) {o : Oper} {fuel : Nat} {listed : Array Bool} {a : Act} {w : World} (hC : C w) (hr : Region.ready md ops listed = [i]) (ho : ops[i]? = some o)
    (h : ∀ K : Act → World → Prop, (∀ a w, wpAnyC F n P md ops C Q fuel (listed.setIfInBounds i true) a w → K a w) → if Region.wanted o (yielded ops a.tmps) = true then Oper.wpIn F n P o a w K Q else (∀ f, o.about P w a.eval = some f → F.fn f) ∧ K (a.put o.dst undef) w) :
    wpAnyC F n P md ops C Q (fuel + 1) listed a w :=
  ⟨hC, fun h0 => (by rw [hr] at h0; cases h0), fun j hj => by
    rw [hr] at hj
    obtain rfl : j = i := by simpa using hj
    exact wpOpIn_step ho fun K' hK' => h K' hK'⟩
theorem doneC {listed : Array Bool} {a : Act} {w : World} (hC : C w) (hr : Region.ready md ops listed = []) (h : Q .normal a w) : ∀ fuel, wpAnyC F n P md ops C Q fuel listed a w
  | 0 => ⟨hC, hr, h⟩
  | _ + 1 => ⟨hC, fun _ => h, by rw [hr]; simp⟩
theorem regionC {id : Nat} {a : Act} {w : World} (C : World → Prop) (hm : P.follows .mixedOrders = true) (g : wpAnyC Fence.wide 3 P .any ops C Q ops.size (Array.replicate ops.size false) a w.drew) : (Code.region id ops true).wp P Q a w :=
  (wpIn_wide (n := 3)).1 (wpIn_region_any hm (any_of_C _ _ _ _ g))
/-- A load of a whole struct. -/
theorem run_la {a : Act} {o : Oper} {w : World} (ty : TypeId) (x : Operand) (h : o.op = .load ty x) (y : Addr) (hx : a.eval x = .pointer (some y)) (cs : List Value) (d : TypeDesc)
    (hC : ∀ j v, cs[j]? = some v → w.cell? (y.add j) = some v) (hu : P.underlying ty = some d) (hd : (match d with | .struct _ | .array _ _ => true | _ => false) = true) (hi : (P.info? ty).map (·.size) = some cs.length) : (execOp a.eval o).run P w = .ok (.value (.agg cs.toArray)) w := by
  have hl : (loadCells y cs.length).run P w = .ok cs.toArray w := run_loadCells_list (P := P) w y cs hC
  have hv : (loadVar ty y).run P w = .ok (.agg cs.toArray) w := by
    cases hq : P.info? ty with
    | none => simp [hq] at hi
    | some i =>
      have hs : i.size = cs.length := by simpa [hq] using hi
      have hagg : (isAgg ty).run P w = .ok true w := by
        unfold isAgg
        rw [Sem.run_bind, run_underlying hu w]
        cases d <;> simp_all
      simp [loadVar, Sem.run_bind, hagg, sizeOf, typeInfo, hq, hs, hl]
  unfold execOp
  simp only [h, hx, Instr.loadAt, Instr.sureAddr, Sem.run_bind, Sem.run_pure, Result.andThen_ok, hv]
/-- One operation, in the widest fence. -/
theorem wpIn_of_wp {o : Oper} {a : Act} {w : World} {K : Act → World → Prop} (h : o.wp P a w K Q) : o.wpIn Fence.wide n P a w K Q := by
  unfold Oper.wp at h
  unfold Oper.wpIn
  refine ⟨fun _ _ => trivial, ?_⟩
  show o.uponIn Fence.wide n P a K Q ((execOp a.eval o).run P w)
  generalize (execOp a.eval o).run P w = r at h ⊢
  cases r with
  | ok x w' =>
    cases x <;> simp only [Oper.upon, Oper.uponIn] at h ⊢
    case value u => exact h
    case skip => exact h
    case defer d => exact h
    case enter f args => exact ⟨fun q => by simp [Fence.wide] at q, callsIn_wide.2 h⟩
    case row row args =>
      refine ⟨fun q => by simp [Fence.wide] at q, fun c cs _ => ?_⟩
      obtain ⟨v, w', h1, h2⟩ := h c cs
      exact ⟨v, w', h1, stepsIn_wide.2 h2⟩
  | halt x w' =>
    cases x <;> simp only [Oper.upon, Oper.uponIn] at h ⊢
    case panic u => exact h
theorem step_wp {o : Oper} {a : Act} {w : World} {K : Act → World → Prop} {E : Prop} (hg : o.guard = none) (h : o.wp P a w K Q) : if Region.wanted o (yielded ops a.tmps) = true then Oper.wpIn Fence.wide n P o a w K Q else E := by
  have hw : Region.wanted o (yielded ops a.tmps) = true := by simp [Region.wanted, hg]
  rw [if_pos hw]
  exact wpIn_of_wp h
end
end Go.Proofs.Ytcjnhchjikcigaa

/- What find of package terms returns: the op that is asked, with the shapes that it reads and makes; the error. -/
namespace Go.Proofs.Ytcjnhchjikcigaa
open Go.ChangeShapes Go.WideShapes Go.ChangeAt Go.RowKit
set_option linter.unusedVariables false
theorem results_row_tmp {P : Program} {fn : Func} {p u : Tmp} {ty : TypeId} (h : fn.results = #[.cell p ty, .tmp u]) (tmps : Array Value) (w : World) (g : Nat) (t : TypeId) (cs : Array Value) (d : TypeDesc) (v : Value)
    (hp : tmps.getD p undef = .pointer (some ⟨g, 0, none⟩)) (hg : w.heap[g]? = some (.cells cs t (0, 0)))
    (hu : P.underlying ty = some d) (hd : (match d with | .struct _ | .array _ _ => true | _ => false) = true) (hi : (P.info? ty).map (·.size) = some cs.size) (hv : tmps.getD u undef = v) :
    (results fn tmps).run P w = .ok (.tuple #[.agg cs, v]) w := by
  rw [Go.results_cell_tmp h, hp, hv]
  simp [asAddr, run_loadVar_row w g t ty cs (0, 0) d hg hu hd hi, Result.andThen]
set_option maxRecDepth 100000 in
set_option maxHeartbeats 4000000 in
theorem find_e (h w c lo hi ot op : Int) (oa : Option Addr) (on oc : Nat) (O : Nat → Nat → Int) (W : World) (hM : MRow W oa on oc O) (Re Ra Rw : Int) (RL : List (Int × Int × Int)) (hR : gtR O h w c lo hi ot on = (Re, Ra, RL, Rw)) (he : Re ≠ 0) :
    Calls Try.prog 50 #[.agg #[.int .i64 h, .int .i64 w, .int .i64 c, .int .i64 lo, .int .i64 hi, .slice oa on oc, .int .i64 ot], .int .i64 op] W fun e w' => e = .returned (.tuple #[.agg #[.int .i64 0, .int .i64 0, .int .i64 0, .int .i64 0, .int .i64 0, .int .i64 0, .int .i64 0, .int .i64 0, .int .i64 0, .int .i64 0, .int .i64 0, .int .i64 0, .slice none 0 0, .slice none 0 0, .int .i64 0, .int .i64 0, .int .i64 0, .int .i64 0, .int .i64 0, .int .i64 0, .int .i64 0, .int .i64 0, .int .i64 0, .int .i64 0, .int .i64 0, .int .i64 0, .int .i64 0, .int .i64 0], .int .i64 Re]) ∧ Below W.heap.size W w' := by
  have hS : Hid (∀ W, MRow W oa on oc O → _) := fun W hW => shapes_any h w c lo hi ot oa on oc O W hW
  rw [hR] at hS
  simp only at hS
  have he' : (Re == 0) = false := by simp [he]
  have hM2 : Hid (MRow W oa on oc O) := hM
  clear hR hM
  have s0 := ((St.start W).new (c := #[.int .i64 h, .int .i64 w, .int .i64 c, .int .i64 lo, .int .i64 hi, .slice oa on oc, .int .i64 ot]) (t := 26)).new (c := #[.int .i64 0, .int .i64 0, .int .i64 0, .int .i64 0, .int .i64 0, .int .i64 0, .int .i64 0, .int .i64 0, .int .i64 0, .int .i64 0, .int .i64 0, .int .i64 0, .slice none 0 0, .slice none 0 0, .int .i64 0, .int .i64 0, .int .i64 0, .int .i64 0, .int .i64 0, .int .i64 0, .int .i64 0, .int .i64 0, .int .i64 0, .int .i64 0, .int .i64 0, .int .i64 0, .int .i64 0, .int .i64 0]) (t := 106)
  simp only [World.size_alloc] at s0
  go_enter Try.func50, Try.ntmps50
  go_wp2_with fail
  refine Calls.mono (hS.out _ (hM2.out.below s0.below)) ?_
  rintro e w1 ⟨v, rfl, hSh, hb⟩
  have s1 := (s0.call hb).new (c := #[.int .i64 Re, .int .i64 Ra, .int .i64 0]) (t := 39)
  obtain ⟨va, vc, rfl⟩ := hSh.slice
  obtain ⟨c1, f1, z1, c2, f2, z2, -⟩ := (s0.call hb).rules
  clear hb hSh
  go_wp2
  obtain ⟨w2, hw2⟩ : ∃ w2, w1.alloc (.cells #[.int .i64 Re, .int .i64 Ra, .int .i64 0] 39) = w2 := ⟨_, rfl⟩
  rw [hw2] at s1 ⊢
  have hF := s1.h1
  have hZ := s1.h2
  have S1 : Hid (St W w2 _) := s1
  clear hw2 s0 s1 c1 f1 c2 f2
  refine regionC (fun w' => w'.heap[w1.heap.size]? = some (.cells #[.int .i64 Re, .int .i64 Ra, .int .i64 0] 39 (0, 0))) (by kernel_rfl) ?_
  refine takeC 0 (v := .agg #[.int .i64 0, .int .i64 0, .int .i64 0, .int .i64 0, .int .i64 0, .int .i64 0, .int .i64 0, .int .i64 0, .int .i64 0, .int .i64 0, .int .i64 0, .int .i64 0, .slice none 0 0, .slice none 0 0, .int .i64 0, .int .i64 0, .int .i64 0, .int .i64 0, .int .i64 0, .int .i64 0, .int .i64 0, .int .i64 0, .int .i64 0, .int .i64 0, .int .i64 0, .int .i64 0, .int .i64 0, .int .i64 0]) rfl rfl (by kernel_rfl) (by kernel_rfl) (by kernel_rfl) (fun _ _ _ h => h) (fun _ => rfl) rfl (fun w' hw' => by kernel_rfl) ?_
  refine takeC 1 (v := .pointer (some ⟨w1.heap.size, 0, none⟩)) rfl rfl (by kernel_rfl) (by kernel_rfl) (by kernel_rfl) (fun _ _ _ h => h) (fun _ => rfl) rfl (fun w' hw' => by go_simp) ?_
  refine takeC 2 (v := .int .i64 Re) rfl rfl (by kernel_rfl) (by kernel_rfl) (by kernel_rfl) (fun _ _ _ h => h) (fun _ => rfl) rfl (fun w' hw' => by have hc := (cells_at hw').1 0; go_simp) ?_
  have hne : w1.heap.size ≠ W.heap.size + 1 := by omega
  refine stepC 3 hF (by kernel_rfl) rfl (fun K hK => step_wp rfl (wp_store_row 106 (.tmp 4) (.tmp 17) rfl (W.heap.size + 1) #[.int .i64 0, .int .i64 0, .int .i64 0, .int .i64 0, .int .i64 0, .int .i64 0, .int .i64 0, .int .i64 0, .int .i64 0, .int .i64 0, .int .i64 0, .int .i64 0, .slice none 0 0, .slice none 0 0, .int .i64 0, .int .i64 0, .int .i64 0, .int .i64 0, .int .i64 0, .int .i64 0, .int .i64 0, .int .i64 0, .int .i64 0, .int .i64 0, .int .i64 0, .int .i64 0, .int .i64 0, .int .i64 0] rfl rfl 106 #[.int .i64 0, .int .i64 0, .int .i64 0, .int .i64 0, .int .i64 0, .int .i64 0, .int .i64 0, .int .i64 0, .int .i64 0, .int .i64 0, .int .i64 0, .int .i64 0, .slice none 0 0, .slice none 0 0, .int .i64 0, .int .i64 0, .int .i64 0, .int .i64 0, .int .i64 0, .int .i64 0, .int .i64 0, .int .i64 0, .int .i64 0, .int .i64 0, .int .i64 0, .int .i64 0, .int .i64 0, .int .i64 0] hZ (by kernel_rfl) rfl (by simp [Value.oneCell']) (hK _ _ ?_)))
  refine takeC 4 (v := .int .i64 Re) rfl rfl (by kernel_rfl) (by kernel_rfl) (by kernel_rfl) (fun _ _ _ h => h) (fun _ => rfl) rfl (fun w' hw' => by go_simp) ?_
  refine doneC ((setRow_other _ _ _ _ hne).trans hF) (by kernel_rfl) ?_ _
  have hZ' := setRow_heap w2.drew (W.heap.size + 1) #[.int .i64 0, .int .i64 0, .int .i64 0, .int .i64 0, .int .i64 0, .int .i64 0, .int .i64 0, .int .i64 0, .int .i64 0, .int .i64 0, .int .i64 0, .int .i64 0, .slice none 0 0, .slice none 0 0, .int .i64 0, .int .i64 0, .int .i64 0, .int .i64 0, .int .i64 0, .int .i64 0, .int .i64 0, .int .i64 0, .int .i64 0, .int .i64 0, .int .i64 0, .int .i64 0, .int .i64 0, .int .i64 0] #[.int .i64 0, .int .i64 0, .int .i64 0, .int .i64 0, .int .i64 0, .int .i64 0, .int .i64 0, .int .i64 0, .int .i64 0, .int .i64 0, .int .i64 0, .int .i64 0, .slice none 0 0, .slice none 0 0, .int .i64 0, .int .i64 0, .int .i64 0, .int .i64 0, .int .i64 0, .int .i64 0, .int .i64 0, .int .i64 0, .int .i64 0, .int .i64 0, .int .i64 0, .int .i64 0, .int .i64 0, .int .i64 0] 106 (0, 0) hZ
  have hB' : Hid (Below W.heap.size W (w2.drew.setRow (W.heap.size + 1) #[.int .i64 0, .int .i64 0, .int .i64 0, .int .i64 0, .int .i64 0, .int .i64 0, .int .i64 0, .int .i64 0, .int .i64 0, .int .i64 0, .int .i64 0, .int .i64 0, .slice none 0 0, .slice none 0 0, .int .i64 0, .int .i64 0, .int .i64 0, .int .i64 0, .int .i64 0, .int .i64 0, .int .i64 0, .int .i64 0, .int .i64 0, .int .i64 0, .int .i64 0, .int .i64 0, .int .i64 0, .int .i64 0])) := below_setRow S1.out.drew.below (by omega) _
  obtain ⟨w3, hw3⟩ : ∃ w3, w2.drew.setRow (W.heap.size + 1) #[.int .i64 0, .int .i64 0, .int .i64 0, .int .i64 0, .int .i64 0, .int .i64 0, .int .i64 0, .int .i64 0, .int .i64 0, .int .i64 0, .int .i64 0, .int .i64 0, .slice none 0 0, .slice none 0 0, .int .i64 0, .int .i64 0, .int .i64 0, .int .i64 0, .int .i64 0, .int .i64 0, .int .i64 0, .int .i64 0, .int .i64 0, .int .i64 0, .int .i64 0, .int .i64 0, .int .i64 0, .int .i64 0] = w3 := ⟨_, rfl⟩
  rw [hw3] at hZ' hB' ⊢
  clear hw3
  go_wp2
  exact bodyPost_ret (results_row_tmp Try.results50 _ _ (W.heap.size + 1) 106 _ _ (.int .i64 Re) rfl hZ' Try.underlying106 rfl (by kernel_rfl) rfl) rfl ⟨rfl, hB'.out⟩
set_option maxRecDepth 100000 in
set_option maxHeartbeats 4000000 in
theorem find_3 (h w c lo hi ot op : Int) (oa : Option Addr) (on oc : Nat) (O : Nat → Nat → Int) (W : World) (hM : MRow W oa on oc O) (Ra Rw : Int) (RL : List (Int × Int × Int)) (hR : gtR O h w c lo hi ot on = (0, Ra, RL, Rw)) (ho : ¬ (1 ≤ op ∧ op ≤ (on : Int))) :
    Calls Try.prog 50 #[.agg #[.int .i64 h, .int .i64 w, .int .i64 c, .int .i64 lo, .int .i64 hi, .slice oa on oc, .int .i64 ot], .int .i64 op] W fun e w' => e = .returned (.tuple #[.agg #[.int .i64 0, .int .i64 0, .int .i64 0, .int .i64 0, .int .i64 0, .int .i64 0, .int .i64 0, .int .i64 0, .int .i64 0, .int .i64 0, .int .i64 0, .int .i64 0, .slice none 0 0, .slice none 0 0, .int .i64 0, .int .i64 0, .int .i64 0, .int .i64 0, .int .i64 0, .int .i64 0, .int .i64 0, .int .i64 0, .int .i64 0, .int .i64 0, .int .i64 0, .int .i64 0, .int .i64 0, .int .i64 0], .int .i64 3]) ∧ Below W.heap.size W w' := by
  have hS : Hid (∀ W, MRow W oa on oc O → _) := fun W hW => shapes_any h w c lo hi ot oa on oc O W hW
  rw [hR] at hS
  simp only at hS
  have hM2 : Hid (MRow W oa on oc O) := hM
  have hocm := hM.1
  have hocx := hM.2.1
  unfold maxLen at hocx
  clear hR hM
  have s0 := ((St.start W).new (c := #[.int .i64 h, .int .i64 w, .int .i64 c, .int .i64 lo, .int .i64 hi, .slice oa on oc, .int .i64 ot]) (t := 26)).new (c := #[.int .i64 0, .int .i64 0, .int .i64 0, .int .i64 0, .int .i64 0, .int .i64 0, .int .i64 0, .int .i64 0, .int .i64 0, .int .i64 0, .int .i64 0, .int .i64 0, .slice none 0 0, .slice none 0 0, .int .i64 0, .int .i64 0, .int .i64 0, .int .i64 0, .int .i64 0, .int .i64 0, .int .i64 0, .int .i64 0, .int .i64 0, .int .i64 0, .int .i64 0, .int .i64 0, .int .i64 0, .int .i64 0]) (t := 106)
  simp only [World.size_alloc] at s0
  by_cases ho1 : op < 1
  · go_enter Try.func50, Try.ntmps50
    go_wp2_with fail
    refine Calls.mono (hS.out _ (hM2.out.below s0.below)) ?_
    rintro e w1 ⟨v, rfl, hSh, hb⟩
    have s1 := (s0.call hb).new (c := #[.int .i64 0, .int .i64 Ra, .int .i64 0]) (t := 39)
    obtain ⟨va, vc, rfl⟩ := hSh.slice
    obtain ⟨c1, f1, z1, c2, f2, z2, -⟩ := (s0.call hb).rules
    have ho2 : op < 1 ∨ (on : Int) < op := by omega
    clear hb hSh ho
    go_wp2_with (refine wpList_store_row rfl 106 (.tmp 4) (.tmp 29) rfl (W.heap.size + 1) #[.int .i64 0, .int .i64 0, .int .i64 0, .int .i64 0, .int .i64 0, .int .i64 0, .int .i64 0, .int .i64 0, .int .i64 0, .int .i64 0, .int .i64 0, .int .i64 0, .slice none 0 0, .slice none 0 0, .int .i64 0, .int .i64 0, .int .i64 0, .int .i64 0, .int .i64 0, .int .i64 0, .int .i64 0, .int .i64 0, .int .i64 0, .int .i64 0, .int .i64 0, .int .i64 0, .int .i64 0, .int .i64 0] rfl rfl 106 #[.int .i64 0, .int .i64 0, .int .i64 0, .int .i64 0, .int .i64 0, .int .i64 0, .int .i64 0, .int .i64 0, .int .i64 0, .int .i64 0, .int .i64 0, .int .i64 0, .slice none 0 0, .slice none 0 0, .int .i64 0, .int .i64 0, .int .i64 0, .int .i64 0, .int .i64 0, .int .i64 0, .int .i64 0, .int .i64 0, .int .i64 0, .int .i64 0, .int .i64 0, .int .i64 0, .int .i64 0, .int .i64 0] s1.h2 (by kernel_rfl) rfl (by simp [Value.oneCell']) ?_; have hZ' := setRow_heap _ (W.heap.size + 1) #[.int .i64 0, .int .i64 0, .int .i64 0, .int .i64 0, .int .i64 0, .int .i64 0, .int .i64 0, .int .i64 0, .int .i64 0, .int .i64 0, .int .i64 0, .int .i64 0, .slice none 0 0, .slice none 0 0, .int .i64 0, .int .i64 0, .int .i64 0, .int .i64 0, .int .i64 0, .int .i64 0, .int .i64 0, .int .i64 0, .int .i64 0, .int .i64 0, .int .i64 0, .int .i64 0, .int .i64 0, .int .i64 0] #[.int .i64 0, .int .i64 0, .int .i64 0, .int .i64 0, .int .i64 0, .int .i64 0, .int .i64 0, .int .i64 0, .int .i64 0, .int .i64 0, .int .i64 0, .int .i64 0, .slice none 0 0, .slice none 0 0, .int .i64 0, .int .i64 0, .int .i64 0, .int .i64 0, .int .i64 0, .int .i64 0, .int .i64 0, .int .i64 0, .int .i64 0, .int .i64 0, .int .i64 0, .int .i64 0, .int .i64 0, .int .i64 0] 106 (0, 0) s1.h2; have hB' : Hid (Below W.heap.size W (_ : World)) := below_setRow s1.below (show W.heap.size ≤ W.heap.size + 1 by omega) #[.int .i64 0, .int .i64 0, .int .i64 0, .int .i64 0, .int .i64 0, .int .i64 0, .int .i64 0, .int .i64 0, .int .i64 0, .int .i64 0, .int .i64 0, .int .i64 0, .slice none 0 0, .slice none 0 0, .int .i64 0, .int .i64 0, .int .i64 0, .int .i64 0, .int .i64 0, .int .i64 0, .int .i64 0, .int .i64 0, .int .i64 0, .int .i64 0, .int .i64 0, .int .i64 0, .int .i64 0, .int .i64 0]; clear c1 f1 c2 f2; generalize World.setRow _ _ _ = w3 at hZ' hB' ⊢)
    exact bodyPost_ret (results_row_tmp Try.results50 _ _ (W.heap.size + 1) 106 _ _ (.int .i64 3) rfl hZ' Try.underlying106 rfl (by kernel_rfl) rfl) rfl ⟨rfl, hB'.out⟩
  · go_enter Try.func50, Try.ntmps50
    go_wp2_with fail
    refine Calls.mono (hS.out _ (hM2.out.below s0.below)) ?_
    rintro e w1 ⟨v, rfl, hSh, hb⟩
    have s1 := (s0.call hb).new (c := #[.int .i64 0, .int .i64 Ra, .int .i64 0]) (t := 39)
    obtain ⟨va, vc, rfl⟩ := hSh.slice
    obtain ⟨c1, f1, z1, c2, f2, z2, -⟩ := (s0.call hb).rules
    have ho2 : op < 1 ∨ (on : Int) < op := by omega
    clear hb hSh ho
    go_wp2_with (refine wpList_store_row rfl 106 (.tmp 4) (.tmp 29) rfl (W.heap.size + 1) #[.int .i64 0, .int .i64 0, .int .i64 0, .int .i64 0, .int .i64 0, .int .i64 0, .int .i64 0, .int .i64 0, .int .i64 0, .int .i64 0, .int .i64 0, .int .i64 0, .slice none 0 0, .slice none 0 0, .int .i64 0, .int .i64 0, .int .i64 0, .int .i64 0, .int .i64 0, .int .i64 0, .int .i64 0, .int .i64 0, .int .i64 0, .int .i64 0, .int .i64 0, .int .i64 0, .int .i64 0, .int .i64 0] rfl rfl 106 #[.int .i64 0, .int .i64 0, .int .i64 0, .int .i64 0, .int .i64 0, .int .i64 0, .int .i64 0, .int .i64 0, .int .i64 0, .int .i64 0, .int .i64 0, .int .i64 0, .slice none 0 0, .slice none 0 0, .int .i64 0, .int .i64 0, .int .i64 0, .int .i64 0, .int .i64 0, .int .i64 0, .int .i64 0, .int .i64 0, .int .i64 0, .int .i64 0, .int .i64 0, .int .i64 0, .int .i64 0, .int .i64 0] s1.h2 (by kernel_rfl) rfl (by simp [Value.oneCell']) ?_; have hZ' := setRow_heap _ (W.heap.size + 1) #[.int .i64 0, .int .i64 0, .int .i64 0, .int .i64 0, .int .i64 0, .int .i64 0, .int .i64 0, .int .i64 0, .int .i64 0, .int .i64 0, .int .i64 0, .int .i64 0, .slice none 0 0, .slice none 0 0, .int .i64 0, .int .i64 0, .int .i64 0, .int .i64 0, .int .i64 0, .int .i64 0, .int .i64 0, .int .i64 0, .int .i64 0, .int .i64 0, .int .i64 0, .int .i64 0, .int .i64 0, .int .i64 0] #[.int .i64 0, .int .i64 0, .int .i64 0, .int .i64 0, .int .i64 0, .int .i64 0, .int .i64 0, .int .i64 0, .int .i64 0, .int .i64 0, .int .i64 0, .int .i64 0, .slice none 0 0, .slice none 0 0, .int .i64 0, .int .i64 0, .int .i64 0, .int .i64 0, .int .i64 0, .int .i64 0, .int .i64 0, .int .i64 0, .int .i64 0, .int .i64 0, .int .i64 0, .int .i64 0, .int .i64 0, .int .i64 0] 106 (0, 0) s1.h2; have hB' : Hid (Below W.heap.size W (_ : World)) := below_setRow s1.below (show W.heap.size ≤ W.heap.size + 1 by omega) #[.int .i64 0, .int .i64 0, .int .i64 0, .int .i64 0, .int .i64 0, .int .i64 0, .int .i64 0, .int .i64 0, .int .i64 0, .int .i64 0, .int .i64 0, .int .i64 0, .slice none 0 0, .slice none 0 0, .int .i64 0, .int .i64 0, .int .i64 0, .int .i64 0, .int .i64 0, .int .i64 0, .int .i64 0, .int .i64 0, .int .i64 0, .int .i64 0, .int .i64 0, .int .i64 0, .int .i64 0, .int .i64 0]; clear c1 f1 c2 f2; generalize World.setRow _ _ _ = w3 at hZ' hB' ⊢)
    exact bodyPost_ret (results_row_tmp Try.results50 _ _ (W.heap.size + 1) 106 _ _ (.int .i64 3) rfl hZ' Try.underlying106 rfl (by kernel_rfl) rfl) rfl ⟨rfl, hB'.out⟩
end Go.Proofs.Ytcjnhchjikcigaa

/- What find of package terms returns of an op that is there. -/
namespace Go.Proofs.Ytcjnhchjikcigaa
open Go.ChangeShapes Go.WideShapes Go.ChangeAt Go.RowKit
set_option linter.unusedVariables false
theorem three_at {w : World} {g n : Nat} {cur : Array Value} {T : TypeId} {x y z : Value} (h : w.heap[g]? = some (.cells cur T (0, 0))) (h0 : cur[n]? = some x) (h1 : cur[n + 1]? = some y) (h2 : cur[n + 2]? = some z) : ∀ q v, [x, y, z][q]? = some v → w.cell? ((⟨g, n, none⟩ : Addr).add q) = some v := by
  intro q v hq
  rw [Addr.add_lit, (cells_at h).1]
  match q, hq with
  | 0, hq => rw [Nat.add_zero, h0]; exact hq
  | 1, hq => rw [h1]; exact hq
  | 2, hq => rw [h2]; exact hq
  | q + 3, hq => simp at hq
set_option maxRecDepth 100000 in
set_option maxHeartbeats 8000000 in
theorem find_r (h w c lo hi ot : Int) (x : Addr) (on oc i : Nat) (O : Nat → Nat → Int) (W : World) (hM : MRow W (some x) on oc O) (hi0 : i < on) (wa : Option Addr) (lw cw : Nat) (ba : Option Addr) (lb cb : Nat)
    (hcell : ∀ q v, [.int .i64 (O i 0), .int .i64 (O i 1), .int .i64 (O i 2), .int .i64 (O i 3), .int .i64 (O i 4), .int .i64 (O i 5), .int .i64 (O i 6), .int .i64 (O i 7), .int .i64 (O i 8), .int .i64 (O i 9), .int .i64 (O i 10), .int .i64 (O i 11), .slice wa lw cw, .slice ba lb cb, .int .i64 (O i 14), .int .i64 (O i 15), .int .i64 (O i 16), .int .i64 (O i 17), .int .i64 (O i 18), .int .i64 (O i 19), .int .i64 (O i 20), .int .i64 (O i 21)][q]? = some v → W.cell? ((x.add (i * 22)).add q) = some v) (Rw : Int) (RL : List (Int × Int × Int)) (hR : gtR O h w c lo hi ot on = (0, 0, RL, Rw)) (hj0 : 0 ≤ O i 1) (hj1 : O i 1 ≤ (i : Int))
    (x0 y0 z0 H V C : Int) (hA : RL.getD (O i 1).toNat (0, 0, 0) = (x0, y0, z0)) (hB : RL.getD (i + 1) (0, 0, 0) = (H, V, C)) (rb : Bool) (hrb : rdB (O i 0) = rb) :
    Calls Try.prog 50 #[.agg #[.int .i64 h, .int .i64 w, .int .i64 c, .int .i64 lo, .int .i64 hi, .slice (some x) on oc, .int .i64 ot], .int .i64 ((i : Int) + 1)] W fun e w' => e = .returned (if rb = true then .tuple #[.agg #[.int .i64 (O i 0), .int .i64 (O i 1), .int .i64 (O i 2), .int .i64 (O i 3), .int .i64 (O i 4), .int .i64 (O i 5), .int .i64 (O i 6), .int .i64 (O i 7), .int .i64 (O i 8), .int .i64 (O i 9), .int .i64 (O i 10), .int .i64 (O i 11), .slice wa lw cw, .slice ba lb cb, .int .i64 (O i 14), .int .i64 (O i 15), .int .i64 (O i 16), .int .i64 (O i 17), .int .i64 (O i 18), .int .i64 (O i 19), .int .i64 (O i 20), .int .i64 (O i 21), .int .i64 x0, .int .i64 y0, .int .i64 z0, .int .i64 H, .int .i64 V, .int .i64 C], .int .i64 0] else .tuple #[.agg #[.int .i64 0, .int .i64 0, .int .i64 0, .int .i64 0, .int .i64 0, .int .i64 0, .int .i64 0, .int .i64 0, .int .i64 0, .int .i64 0, .int .i64 0, .int .i64 0, .slice none 0 0, .slice none 0 0, .int .i64 0, .int .i64 0, .int .i64 0, .int .i64 0, .int .i64 0, .int .i64 0, .int .i64 0, .int .i64 0, .int .i64 0, .int .i64 0, .int .i64 0, .int .i64 0, .int .i64 0, .int .i64 0], .int .i64 81]) ∧ Below W.heap.size W w' := by
  have hS : Hid (∀ W, MRow W (some x) on oc O → _) := fun W hW => shapes_any h w c lo hi ot (some x) on oc O W hW
  rw [hR] at hS
  simp only at hS
  obtain ⟨-, hRl, ho64, -, -, -⟩ := gtR_ok hR
  have hM2 : Hid (MRow W (some x) on oc O) := hM
  have hocm := hM.1
  have hocx := hM.2.1
  unfold maxLen at hocx
  have Hc : Hid (∀ q v, [.int .i64 (O i 0), .int .i64 (O i 1), .int .i64 (O i 2), .int .i64 (O i 3), .int .i64 (O i 4), .int .i64 (O i 5), .int .i64 (O i 6), .int .i64 (O i 7), .int .i64 (O i 8), .int .i64 (O i 9), .int .i64 (O i 10), .int .i64 (O i 11), .slice wa lw cw, .slice ba lb cb, .int .i64 (O i 14), .int .i64 (O i 15), .int .i64 (O i 16), .int .i64 (O i 17), .int .i64 (O i 18), .int .i64 (O i 19), .int .i64 (O i 20), .int .i64 (O i 21)][q]? = some v → W.cell? ((x.add (i * 22)).add q) = some v) := hcell
  clear hR hM hcell
  have s0 := ((St.start W).new (c := #[.int .i64 h, .int .i64 w, .int .i64 c, .int .i64 lo, .int .i64 hi, .slice (some x) on oc, .int .i64 ot]) (t := 26)).new (c := #[.int .i64 0, .int .i64 0, .int .i64 0, .int .i64 0, .int .i64 0, .int .i64 0, .int .i64 0, .int .i64 0, .int .i64 0, .int .i64 0, .int .i64 0, .int .i64 0, .slice none 0 0, .slice none 0 0, .int .i64 0, .int .i64 0, .int .i64 0, .int .i64 0, .int .i64 0, .int .i64 0, .int .i64 0, .int .i64 0, .int .i64 0, .int .i64 0, .int .i64 0, .int .i64 0, .int .i64 0, .int .i64 0]) (t := 106)
  simp only [World.size_alloc] at s0
  go_enter Try.func50, Try.ntmps50
  go_wp2_with fail
  refine Calls.mono (hS.out _ (hM2.out.below s0.below)) ?_
  rintro e w1 ⟨v, rfl, hSh, hb⟩
  have s1 := (s0.call hb).new (c := #[.int .i64 0, .int .i64 0, .int .i64 0]) (t := 39)
  obtain ⟨g, cap, cur, rfl, hgb, hgc, hCu⟩ : ∃ g cap cur, v = .slice (some ⟨g, 0, none⟩) (on + 1) cap ∧ W.heap.size ≤ g ∧ w1.heap[g]? = some (.cells cur 23 (0, 0)) ∧ Cu cur cap RL := by
    rcases hSh with ⟨-, q⟩ | ⟨g, cap, cur, q1, q2, q3, q4, -⟩
    · rw [q] at hRl; simp at hRl
    · exact ⟨g, cap, cur, by rw [q1, hRl], by simp at q2; omega, q3, q4⟩
  have hcap := hCu.2.1
  obtain ⟨b1, b2, b3⟩ := hCu.at (show i + 1 < RL.length by omega)
  obtain ⟨a1, a2, a3⟩ := hCu.at (show (O i 1).toNat < RL.length by omega)
  rw [hB] at b1 b2 b3
  rw [hA] at a1 a2 a3
  simp only at a1 a2 a3 b1 b2 b3
  have hgz := lt_of_heap hgc
  have hgc2 : Hid ((w1.alloc (.cells #[.int .i64 0, .int .i64 0, .int .i64 0] 39)).heap[g]? = some (.cells cur 23 (0, 0))) := (heap_alloc_old w1 _ hgz).trans hgc
  obtain ⟨c1, f1, z1, c2, f2, z2, -⟩ := (s0.call hb).rules
  clear hb hSh hCu hgc hS hM2
  go_wp2
  obtain ⟨w2, hw2⟩ : ∃ w2, w1.alloc (.cells #[.int .i64 0, .int .i64 0, .int .i64 0] 39) = w2 := ⟨_, rfl⟩
  rw [hw2] at s1 hgc2 ⊢
  have hw2z : w2.heap.size = w1.heap.size + 1 := by rw [← hw2]; simp
  have S1 : Hid (St W w2 _) := s1
  have hG := s1.h3
  have HC2 : Hid (∀ q v, [.int .i64 (O i 0), .int .i64 (O i 1), .int .i64 (O i 2), .int .i64 (O i 3), .int .i64 (O i 4), .int .i64 (O i 5), .int .i64 (O i 6), .int .i64 (O i 7), .int .i64 (O i 8), .int .i64 (O i 9), .int .i64 (O i 10), .int .i64 (O i 11), .slice wa lw cw, .slice ba lb cb, .int .i64 (O i 14), .int .i64 (O i 15), .int .i64 (O i 16), .int .i64 (O i 17), .int .i64 (O i 18), .int .i64 (O i 19), .int .i64 (O i 20), .int .i64 (O i 21)][q]? = some v → w2.cell? ((x.add (i * 22)).add q) = some v) := fun q v hq => (s1.below.cell (World.block_lt_of_cell? W _ (Hc.out q v hq))).trans (Hc.out q v hq)
  clear hw2 s0 s1 c1 f1 c2 f2
  refine regionC (fun w' => Below w2.heap.size w2 w') (by kernel_rfl) ?_
  obtain ⟨wd, hwd⟩ : ∃ wd, w2.drew = wd := ⟨_, rfl⟩
  have hdB : Below w2.heap.size w2 wd := by rw [← hwd]; exact (Below.refl _ _).drew
  have S2 : Hid (St W wd _) := S1.out.call hdB
  rw [hwd]
  have hwz : Hid (wd.heap.size = w1.heap.size + 1) := by unfold Hid; rw [← hwd]; exact hw2z
  clear hw2z
  have HD : Hid (Below w2.heap.size w2 wd) := hdB
  clear hwd hdB
  refine takeC 0 (v := .pointer (some ⟨W.heap.size, 5, none⟩)) rfl rfl (by kernel_rfl) (by kernel_rfl) (by kernel_rfl) (fun _ _ _ h => h) (fun _ => rfl) rfl (fun w' hw' => by go_simp) ?_
  refine takeC 1 (v := .slice (some x) on oc) rfl rfl (by kernel_rfl) (by kernel_rfl) (by kernel_rfl) (fun _ _ _ h => h) (fun _ => rfl) rfl (fun w' hw' => by have hc := (cells_at ((hw'.block _ (lt_of_heap hG)).trans hG)).1 5; go_simp) ?_
  refine takeC 2 (v := .int .i64 ((i : Int) + 1)) rfl rfl (by kernel_rfl) (by kernel_rfl) (by kernel_rfl) (fun _ _ _ h => h) (fun _ => rfl) rfl (fun w' hw' => by go_simp) ?_
  refine takeC 3 (v := .int .i64 (i : Int)) rfl rfl (by kernel_rfl) (by kernel_rfl) (by kernel_rfl) (fun _ _ _ h => h) (fun _ => rfl) rfl (fun w' hw' => by go_simp; rw [IntKind.wrap_i64]; omega) ?_
  refine takeC 4 (v := .pointer (some (x.add (i * 22)))) rfl rfl (by kernel_rfl) (by kernel_rfl) (by kernel_rfl) (fun _ _ _ h => h) (fun _ => rfl) rfl (fun w' hw' => by go_simp) ?_
  refine takeC 5 (v := .agg #[.int .i64 (O i 0), .int .i64 (O i 1), .int .i64 (O i 2), .int .i64 (O i 3), .int .i64 (O i 4), .int .i64 (O i 5), .int .i64 (O i 6), .int .i64 (O i 7), .int .i64 (O i 8), .int .i64 (O i 9), .int .i64 (O i 10), .int .i64 (O i 11), .slice wa lw cw, .slice ba lb cb, .int .i64 (O i 14), .int .i64 (O i 15), .int .i64 (O i 16), .int .i64 (O i 17), .int .i64 (O i 18), .int .i64 (O i 19), .int .i64 (O i 20), .int .i64 (O i 21)]) rfl rfl (by kernel_rfl) (by kernel_rfl) (by kernel_rfl) (fun _ _ _ h => h) (fun _ => rfl) rfl (fun w' hw' => run_la 70 (.tmp 34) rfl (x.add (i * 22)) (by kernel_rfl) [.int .i64 (O i 0), .int .i64 (O i 1), .int .i64 (O i 2), .int .i64 (O i 3), .int .i64 (O i 4), .int .i64 (O i 5), .int .i64 (O i 6), .int .i64 (O i 7), .int .i64 (O i 8), .int .i64 (O i 9), .int .i64 (O i 10), .int .i64 (O i 11), .slice wa lw cw, .slice ba lb cb, .int .i64 (O i 14), .int .i64 (O i 15), .int .i64 (O i 16), .int .i64 (O i 17), .int .i64 (O i 18), .int .i64 (O i 19), .int .i64 (O i 20), .int .i64 (O i 21)] _ (fun q v hq => (hw'.cell (World.block_lt_of_cell? _ _ (HC2.out q v hq))).trans (HC2.out q v hq)) Try.underlying70 rfl (by kernel_rfl)) ?_
  refine takeC 6 (v := .slice (some ⟨g, 0, none⟩) (on + 1) cap) rfl rfl (by kernel_rfl) (by kernel_rfl) (by kernel_rfl) (fun _ _ _ h => h) (fun _ => rfl) rfl (fun w' hw' => by go_simp) ?_
  refine takeC 7 (v := .int .i64 ((i : Int) + 1)) rfl rfl (by kernel_rfl) (by kernel_rfl) (by kernel_rfl) (fun _ _ _ h => h) (fun _ => rfl) rfl (fun w' hw' => by go_simp) ?_
  refine takeC 8 (v := .pointer (some ⟨g, (i + 1) * 3, none⟩)) rfl rfl (by kernel_rfl) (by kernel_rfl) (by kernel_rfl) (fun _ _ _ h => h) (fun _ => rfl) rfl (fun w' hw' => by go_simp; intro q; omega) ?_
  refine takeC 9 (v := .agg #[.int .i64 H, .int .i64 V, .int .i64 C]) rfl rfl (by kernel_rfl) (by kernel_rfl) (by kernel_rfl) (fun _ _ _ h => h) (fun _ => rfl) rfl (fun w' hw' => run_la 23 (.tmp 38) rfl ⟨g, (i + 1) * 3, none⟩ (by kernel_rfl) [.int .i64 H, .int .i64 V, .int .i64 C] _ (three_at ((hw'.block _ (lt_of_heap hgc2.out)).trans hgc2.out) b1 b2 b3) Try.underlying23 rfl (by kernel_rfl)) ?_
  refine takeC 10 (v := .agg #[.int .i64 (O i 0), .int .i64 (O i 1), .int .i64 (O i 2), .int .i64 (O i 3), .int .i64 (O i 4), .int .i64 (O i 5), .int .i64 (O i 6), .int .i64 (O i 7), .int .i64 (O i 8), .int .i64 (O i 9), .int .i64 (O i 10), .int .i64 (O i 11), .slice wa lw cw, .slice ba lb cb, .int .i64 (O i 14), .int .i64 (O i 15), .int .i64 (O i 16), .int .i64 (O i 17), .int .i64 (O i 18), .int .i64 (O i 19), .int .i64 (O i 20), .int .i64 (O i 21), .int .i64 0, .int .i64 0, .int .i64 0, .int .i64 H, .int .i64 V, .int .i64 C]) rfl rfl (by kernel_rfl) (by kernel_rfl) (by kernel_rfl) (fun _ _ _ h => h) (fun _ => rfl) rfl (fun w' hw' => by kernel_rfl) ?_
  refine stepC 11 HD.out (by kernel_rfl) rfl (fun K hK => step_wp rfl ?_)
  go_simp
  refine hK _ _ ?_
  clear hK K
  have HA : Hid (Below w2.heap.size w2 (wd.alloc (.cells #[.int .i64 0, .int .i64 0, .int .i64 0, .int .i64 0, .int .i64 0, .int .i64 0, .int .i64 0, .int .i64 0, .int .i64 0, .int .i64 0, .int .i64 0, .int .i64 0, .slice none 0 0, .slice none 0 0, .int .i64 0, .int .i64 0, .int .i64 0, .int .i64 0, .int .i64 0, .int .i64 0, .int .i64 0, .int .i64 0, .int .i64 0, .int .i64 0, .int .i64 0, .int .i64 0, .int .i64 0, .int .i64 0] 106))) := HD.out.alloc HD.out.size _
  refine stepC 12 HA.out (by kernel_rfl) rfl (fun K hK => step_wp rfl (wp_store_row 106 (.tmp 8) (.tmp 40) rfl wd.heap.size #[.int .i64 (O i 0), .int .i64 (O i 1), .int .i64 (O i 2), .int .i64 (O i 3), .int .i64 (O i 4), .int .i64 (O i 5), .int .i64 (O i 6), .int .i64 (O i 7), .int .i64 (O i 8), .int .i64 (O i 9), .int .i64 (O i 10), .int .i64 (O i 11), .slice wa lw cw, .slice ba lb cb, .int .i64 (O i 14), .int .i64 (O i 15), .int .i64 (O i 16), .int .i64 (O i 17), .int .i64 (O i 18), .int .i64 (O i 19), .int .i64 (O i 20), .int .i64 (O i 21), .int .i64 0, .int .i64 0, .int .i64 0, .int .i64 H, .int .i64 V, .int .i64 C] (by kernel_rfl) (by kernel_rfl) 106 #[.int .i64 0, .int .i64 0, .int .i64 0, .int .i64 0, .int .i64 0, .int .i64 0, .int .i64 0, .int .i64 0, .int .i64 0, .int .i64 0, .int .i64 0, .int .i64 0, .slice none 0 0, .slice none 0 0, .int .i64 0, .int .i64 0, .int .i64 0, .int .i64 0, .int .i64 0, .int .i64 0, .int .i64 0, .int .i64 0, .int .i64 0, .int .i64 0, .int .i64 0, .int .i64 0, .int .i64 0, .int .i64 0] (heap_alloc_new wd _) (by kernel_rfl) rfl (by simp [Value.oneCell']) (hK _ _ ?_)))
  rw [World.setRow_alloc_new]
  refine doneC (HD.out.alloc HD.out.size _) (by kernel_rfl) ?_ _
  have s3 := S2.out.new (c := #[.int .i64 (O i 0), .int .i64 (O i 1), .int .i64 (O i 2), .int .i64 (O i 3), .int .i64 (O i 4), .int .i64 (O i 5), .int .i64 (O i 6), .int .i64 (O i 7), .int .i64 (O i 8), .int .i64 (O i 9), .int .i64 (O i 10), .int .i64 (O i 11), .slice wa lw cw, .slice ba lb cb, .int .i64 (O i 14), .int .i64 (O i 15), .int .i64 (O i 16), .int .i64 (O i 17), .int .i64 (O i 18), .int .i64 (O i 19), .int .i64 (O i 20), .int .i64 (O i 21), .int .i64 0, .int .i64 0, .int .i64 0, .int .i64 H, .int .i64 V, .int .i64 C]) (t := 106)
  have hgc3 : Hid ((wd.alloc (.cells #[.int .i64 (O i 0), .int .i64 (O i 1), .int .i64 (O i 2), .int .i64 (O i 3), .int .i64 (O i 4), .int .i64 (O i 5), .int .i64 (O i 6), .int .i64 (O i 7), .int .i64 (O i 8), .int .i64 (O i 9), .int .i64 (O i 10), .int .i64 (O i 11), .slice wa lw cw, .slice ba lb cb, .int .i64 (O i 14), .int .i64 (O i 15), .int .i64 (O i 16), .int .i64 (O i 17), .int .i64 (O i 18), .int .i64 (O i 19), .int .i64 (O i 20), .int .i64 (O i 21), .int .i64 0, .int .i64 0, .int .i64 0, .int .i64 H, .int .i64 V, .int .i64 C] 106)).heap[g]? = some (.cells cur 23 (0, 0))) := ((HD.out.alloc HD.out.size _).block g (lt_of_heap hgc2.out)).trans hgc2.out
  obtain ⟨w4, hw4⟩ : ∃ w4, wd.alloc (.cells #[.int .i64 (O i 0), .int .i64 (O i 1), .int .i64 (O i 2), .int .i64 (O i 3), .int .i64 (O i 4), .int .i64 (O i 5), .int .i64 (O i 6), .int .i64 (O i 7), .int .i64 (O i 8), .int .i64 (O i 9), .int .i64 (O i 10), .int .i64 (O i 11), .slice wa lw cw, .slice ba lb cb, .int .i64 (O i 14), .int .i64 (O i 15), .int .i64 (O i 16), .int .i64 (O i 17), .int .i64 (O i 18), .int .i64 (O i 19), .int .i64 (O i 20), .int .i64 (O i 21), .int .i64 0, .int .i64 0, .int .i64 0, .int .i64 H, .int .i64 V, .int .i64 C] 106) = w4 := ⟨_, rfl⟩
  rw [hw4] at s3 hgc3 ⊢
  have S3 : Hid (St W w4 _) := s3
  obtain ⟨c1, f1, z1, -, -, -, c3, f3, z3, c4, f4, z4, -⟩ := s3.rules
  clear hw4 S1 S2 HD HA hgc2 HC2 Hc s3 c3 f3 c4 f4 hG
  go_wp2_with fail
  refine (red_any _ _).mono ?_
  rintro e w' ⟨rfl, hw'⟩
  have hw'' := hw'.symm
  subst hw''
  rw [hrb]
  have hz : w1.heap.size < wd.heap.size := by have := hwz.out; omega
  cases rb with
  | false =>
    go_wp2_with (refine wpList_store_row rfl 106 (.tmp 4) (.tmp 46) rfl (W.heap.size + 1) #[.int .i64 0, .int .i64 0, .int .i64 0, .int .i64 0, .int .i64 0, .int .i64 0, .int .i64 0, .int .i64 0, .int .i64 0, .int .i64 0, .int .i64 0, .int .i64 0, .slice none 0 0, .slice none 0 0, .int .i64 0, .int .i64 0, .int .i64 0, .int .i64 0, .int .i64 0, .int .i64 0, .int .i64 0, .int .i64 0, .int .i64 0, .int .i64 0, .int .i64 0, .int .i64 0, .int .i64 0, .int .i64 0] rfl rfl 106 #[.int .i64 0, .int .i64 0, .int .i64 0, .int .i64 0, .int .i64 0, .int .i64 0, .int .i64 0, .int .i64 0, .int .i64 0, .int .i64 0, .int .i64 0, .int .i64 0, .slice none 0 0, .slice none 0 0, .int .i64 0, .int .i64 0, .int .i64 0, .int .i64 0, .int .i64 0, .int .i64 0, .int .i64 0, .int .i64 0, .int .i64 0, .int .i64 0, .int .i64 0, .int .i64 0, .int .i64 0, .int .i64 0] S3.out.h3 (by kernel_rfl) rfl (by simp [Value.oneCell']) ?_; have hZ' := setRow_heap _ (W.heap.size + 1) #[.int .i64 0, .int .i64 0, .int .i64 0, .int .i64 0, .int .i64 0, .int .i64 0, .int .i64 0, .int .i64 0, .int .i64 0, .int .i64 0, .int .i64 0, .int .i64 0, .slice none 0 0, .slice none 0 0, .int .i64 0, .int .i64 0, .int .i64 0, .int .i64 0, .int .i64 0, .int .i64 0, .int .i64 0, .int .i64 0, .int .i64 0, .int .i64 0, .int .i64 0, .int .i64 0, .int .i64 0, .int .i64 0] #[.int .i64 0, .int .i64 0, .int .i64 0, .int .i64 0, .int .i64 0, .int .i64 0, .int .i64 0, .int .i64 0, .int .i64 0, .int .i64 0, .int .i64 0, .int .i64 0, .slice none 0 0, .slice none 0 0, .int .i64 0, .int .i64 0, .int .i64 0, .int .i64 0, .int .i64 0, .int .i64 0, .int .i64 0, .int .i64 0, .int .i64 0, .int .i64 0, .int .i64 0, .int .i64 0, .int .i64 0, .int .i64 0] 106 (0, 0) S3.out.h3; have hB' : Hid (Below W.heap.size W (_ : World)) := below_setRow S3.out.below (show W.heap.size ≤ W.heap.size + 1 by omega) #[.int .i64 0, .int .i64 0, .int .i64 0, .int .i64 0, .int .i64 0, .int .i64 0, .int .i64 0, .int .i64 0, .int .i64 0, .int .i64 0, .int .i64 0, .int .i64 0, .slice none 0 0, .slice none 0 0, .int .i64 0, .int .i64 0, .int .i64 0, .int .i64 0, .int .i64 0, .int .i64 0, .int .i64 0, .int .i64 0, .int .i64 0, .int .i64 0, .int .i64 0, .int .i64 0, .int .i64 0, .int .i64 0]; clear c1 f1; generalize World.setRow _ _ _ = w5 at hZ' hB' ⊢)
    exact bodyPost_ret (results_row_tmp Try.results50 _ _ (W.heap.size + 1) 106 _ _ (.int .i64 81) rfl hZ' Try.underlying106 rfl (by kernel_rfl) rfl) rfl ⟨rfl, hB'.out⟩
  | true =>
    have a1' : w4.cell? ⟨g, (O i 1).toNat * 3, none⟩ = some (.int .i64 x0) := by rw [(cells_at hgc3.out).1]; exact a1
    have a2' : w4.cell? ⟨g, (O i 1).toNat * 3 + 1, none⟩ = some (.int .i64 y0) := by rw [(cells_at hgc3.out).1]; exact a2
    have a3' : w4.cell? ⟨g, (O i 1).toNat * 3 + 2, none⟩ = some (.int .i64 z0) := by rw [(cells_at hgc3.out).1]; exact a3
    clear a1 a2 a3 b1 b2 b3
    go_upto_region 10 with fail
    have hR1 : (((w4.setCell ⟨wd.heap.size, 22, none⟩ (.int .i64 x0)).setCell ⟨wd.heap.size, 23, none⟩ (.int .i64 y0)).setCell ⟨wd.heap.size, 24, none⟩ (.int .i64 z0)).heap[wd.heap.size]? = some (.cells #[.int .i64 (O i 0), .int .i64 (O i 1), .int .i64 (O i 2), .int .i64 (O i 3), .int .i64 (O i 4), .int .i64 (O i 5), .int .i64 (O i 6), .int .i64 (O i 7), .int .i64 (O i 8), .int .i64 (O i 9), .int .i64 (O i 10), .int .i64 (O i 11), .slice wa lw cw, .slice ba lb cb, .int .i64 (O i 14), .int .i64 (O i 15), .int .i64 (O i 16), .int .i64 (O i 17), .int .i64 (O i 18), .int .i64 (O i 19), .int .i64 (O i 20), .int .i64 (O i 21), .int .i64 x0, .int .i64 y0, .int .i64 z0, .int .i64 H, .int .i64 V, .int .i64 C] 106 (0, 0)) := heap_setCell_at (heap_setCell_at (heap_setCell_at S3.out.h1))
    have hZ1 : (((w4.setCell ⟨wd.heap.size, 22, none⟩ (.int .i64 x0)).setCell ⟨wd.heap.size, 23, none⟩ (.int .i64 y0)).setCell ⟨wd.heap.size, 24, none⟩ (.int .i64 z0)).heap[W.heap.size + 1]? = some (.cells #[.int .i64 0, .int .i64 0, .int .i64 0, .int .i64 0, .int .i64 0, .int .i64 0, .int .i64 0, .int .i64 0, .int .i64 0, .int .i64 0, .int .i64 0, .int .i64 0, .slice none 0 0, .slice none 0 0, .int .i64 0, .int .i64 0, .int .i64 0, .int .i64 0, .int .i64 0, .int .i64 0, .int .i64 0, .int .i64 0, .int .i64 0, .int .i64 0, .int .i64 0, .int .i64 0, .int .i64 0, .int .i64 0] 106 (0, 0)) := by
      have hne : W.heap.size + 1 ≠ wd.heap.size := by omega
      rw [Below.heap_setCell _ _ _ _ hne, Below.heap_setCell _ _ _ _ hne, Below.heap_setCell _ _ _ _ hne]
      exact S3.out.h3
    have hB1 : Hid (Below W.heap.size W (((w4.setCell ⟨wd.heap.size, 22, none⟩ (.int .i64 x0)).setCell ⟨wd.heap.size, 23, none⟩ (.int .i64 y0)).setCell ⟨wd.heap.size, 24, none⟩ (.int .i64 z0))) := ((S3.out.below.setCell (p := ⟨wd.heap.size, 22, none⟩) (by show W.heap.size ≤ wd.heap.size; omega) _).setCell (p := ⟨wd.heap.size, 23, none⟩) (by show W.heap.size ≤ wd.heap.size; omega) _).setCell (p := ⟨wd.heap.size, 24, none⟩) (by show W.heap.size ≤ wd.heap.size; omega) _
    obtain ⟨w5, hw5⟩ : ∃ w5, ((w4.setCell ⟨wd.heap.size, 22, none⟩ (.int .i64 x0)).setCell ⟨wd.heap.size, 23, none⟩ (.int .i64 y0)).setCell ⟨wd.heap.size, 24, none⟩ (.int .i64 z0) = w5 := ⟨_, rfl⟩
    rw [hw5] at hR1 hZ1 hB1 ⊢
    have HZ1 : Hid (w5.heap[W.heap.size + 1]? = some (.cells #[.int .i64 0, .int .i64 0, .int .i64 0, .int .i64 0, .int .i64 0, .int .i64 0, .int .i64 0, .int .i64 0, .int .i64 0, .int .i64 0, .int .i64 0, .int .i64 0, .slice none 0 0, .slice none 0 0, .int .i64 0, .int .i64 0, .int .i64 0, .int .i64 0, .int .i64 0, .int .i64 0, .int .i64 0, .int .i64 0, .int .i64 0, .int .i64 0, .int .i64 0, .int .i64 0, .int .i64 0, .int .i64 0] 106 (0, 0))) := hZ1
    clear hw5 c1 f1 a1' a2' a3' S3 hgc3 hZ1
    go_wp2_with (first
      | (refine wpList_load_row rfl 106 (.tmp 8) rfl wd.heap.size rfl 106 _ (0, 0) _ hR1 Try.underlying106 rfl (by kernel_rfl) ?_)
      | (refine wpList_store_row rfl 106 (.tmp 4) (.tmp 54) rfl (W.heap.size + 1) #[.int .i64 (O i 0), .int .i64 (O i 1), .int .i64 (O i 2), .int .i64 (O i 3), .int .i64 (O i 4), .int .i64 (O i 5), .int .i64 (O i 6), .int .i64 (O i 7), .int .i64 (O i 8), .int .i64 (O i 9), .int .i64 (O i 10), .int .i64 (O i 11), .slice wa lw cw, .slice ba lb cb, .int .i64 (O i 14), .int .i64 (O i 15), .int .i64 (O i 16), .int .i64 (O i 17), .int .i64 (O i 18), .int .i64 (O i 19), .int .i64 (O i 20), .int .i64 (O i 21), .int .i64 x0, .int .i64 y0, .int .i64 z0, .int .i64 H, .int .i64 V, .int .i64 C] rfl rfl 106 #[.int .i64 0, .int .i64 0, .int .i64 0, .int .i64 0, .int .i64 0, .int .i64 0, .int .i64 0, .int .i64 0, .int .i64 0, .int .i64 0, .int .i64 0, .int .i64 0, .slice none 0 0, .slice none 0 0, .int .i64 0, .int .i64 0, .int .i64 0, .int .i64 0, .int .i64 0, .int .i64 0, .int .i64 0, .int .i64 0, .int .i64 0, .int .i64 0, .int .i64 0, .int .i64 0, .int .i64 0, .int .i64 0] HZ1.out (by kernel_rfl) rfl (by simp [Value.oneCell']) ?_; have hZ' := setRow_heap _ (W.heap.size + 1) #[.int .i64 0, .int .i64 0, .int .i64 0, .int .i64 0, .int .i64 0, .int .i64 0, .int .i64 0, .int .i64 0, .int .i64 0, .int .i64 0, .int .i64 0, .int .i64 0, .slice none 0 0, .slice none 0 0, .int .i64 0, .int .i64 0, .int .i64 0, .int .i64 0, .int .i64 0, .int .i64 0, .int .i64 0, .int .i64 0, .int .i64 0, .int .i64 0, .int .i64 0, .int .i64 0, .int .i64 0, .int .i64 0] #[.int .i64 (O i 0), .int .i64 (O i 1), .int .i64 (O i 2), .int .i64 (O i 3), .int .i64 (O i 4), .int .i64 (O i 5), .int .i64 (O i 6), .int .i64 (O i 7), .int .i64 (O i 8), .int .i64 (O i 9), .int .i64 (O i 10), .int .i64 (O i 11), .slice wa lw cw, .slice ba lb cb, .int .i64 (O i 14), .int .i64 (O i 15), .int .i64 (O i 16), .int .i64 (O i 17), .int .i64 (O i 18), .int .i64 (O i 19), .int .i64 (O i 20), .int .i64 (O i 21), .int .i64 x0, .int .i64 y0, .int .i64 z0, .int .i64 H, .int .i64 V, .int .i64 C] 106 (0, 0) HZ1.out; have hB' : Hid (Below W.heap.size W (_ : World)) := below_setRow hB1.out (show W.heap.size ≤ W.heap.size + 1 by omega) #[.int .i64 (O i 0), .int .i64 (O i 1), .int .i64 (O i 2), .int .i64 (O i 3), .int .i64 (O i 4), .int .i64 (O i 5), .int .i64 (O i 6), .int .i64 (O i 7), .int .i64 (O i 8), .int .i64 (O i 9), .int .i64 (O i 10), .int .i64 (O i 11), .slice wa lw cw, .slice ba lb cb, .int .i64 (O i 14), .int .i64 (O i 15), .int .i64 (O i 16), .int .i64 (O i 17), .int .i64 (O i 18), .int .i64 (O i 19), .int .i64 (O i 20), .int .i64 (O i 21), .int .i64 x0, .int .i64 y0, .int .i64 z0, .int .i64 H, .int .i64 V, .int .i64 C]; clear hR1; generalize World.setRow _ _ _ = w6 at hZ' hB' ⊢))
    exact bodyPost_ret (results_row_tmp Try.results50 _ _ (W.heap.size + 1) 106 _ _ (.int .i64 0) rfl hZ' Try.underlying106 rfl (by kernel_rfl) rfl) rfl ⟨rfl, hB'.out⟩
end Go.Proofs.Ytcjnhchjikcigaa

/- The op that is asked, with all that is known of it; what Length, Channels and Positions of package terms return. -/
namespace Go.Proofs.Ytcjnhchjikcigaa
open Go.ChangeShapes Go.WideShapes Go.ChangeAt Go.RowKit
set_option linter.unusedVariables false
/-- The op of that number reduces; where it lies, its lists, its shapes. -/
def Fnd (W : World) (oa : Option Addr) (on : Nat) (O : Nat → Nat → Int) (Z B : Nat → List Int) (RL : List (Int × Int × Int)) (i : Nat) (x : Addr) (wa : Option Addr) (lw cw : Nat) (ba : Option Addr) (lb cb : Nat) (x0 y0 z0 H V C : Int) : Prop :=
  i < on ∧ oa = some x ∧ O i 12 = (lw : Int) ∧ O i 13 = (lb : Int) ∧ (∀ q v, [.int .i64 (O i 0), .int .i64 (O i 1), .int .i64 (O i 2), .int .i64 (O i 3), .int .i64 (O i 4), .int .i64 (O i 5), .int .i64 (O i 6), .int .i64 (O i 7), .int .i64 (O i 8), .int .i64 (O i 9), .int .i64 (O i 10), .int .i64 (O i 11), .slice wa lw cw, .slice ba lb cb, .int .i64 (O i 14), .int .i64 (O i 15), .int .i64 (O i 16), .int .i64 (O i 17), .int .i64 (O i 18), .int .i64 (O i 19), .int .i64 (O i 20), .int .i64 (O i 21)][q]? = some v → W.cell? ((x.add (i * 22)).add q) = some v) ∧ IRow .i16 W wa lw cw (Z i) ∧ IRow .i32 W ba lb cb (B i) ∧
    RL.getD (O i 1).toNat (0, 0, 0) = (x0, y0, z0) ∧ RL.getD (i + 1) (0, 0, 0) = (H, V, C) ∧ Sit (O i 0) (O i 4) (O i 5) (O i 6) (O i 7) (O i 8) (O i 9) (O i 10) (O i 11) x0 y0 z0 H V C lw lb ∧ (0 ≤ O i 1 ∧ O i 1 ≤ (i : Int)) ∧ rdB (O i 0) = true
theorem Fnd.below {W W' : World} {oa : Option Addr} {on : Nat} {O : Nat → Nat → Int} {Z B : Nat → List Int} {RL : List (Int × Int × Int)} {i : Nat} {x : Addr} {wa : Option Addr} {lw cw : Nat} {ba : Option Addr} {lb cb : Nat} {x0 y0 z0 H V C : Int} (h : Fnd W oa on O Z B RL i x wa lw cw ba lb cb x0 y0 z0 H V C) (g : Below W.heap.size W W') : Fnd W' oa on O Z B RL i x wa lw cw ba lb cb x0 y0 z0 H V C := by
  obtain ⟨h1, h2, h3, h4, h5, h6, h7, h8⟩ := h
  exact ⟨h1, h2, h3, h4, fun q v hq => (g.cell (World.block_lt_of_cell? W _ (h5 q v hq))).trans (h5 q v hq), h6.below g, h7.below g, h8⟩
theorem found (h w c lo hi ot : Int) (oa : Option Addr) (on oc : Nat) (O : Nat → Nat → Int) (Z B : Nat → List Int) (W : World) (hL : LRow W oa on oc O Z B) (op : Int) (hf : fiE O h w c lo hi ot on op = 0) : ∃ (RL : List (Int × Int × Int)) (Rw : Int), gtR O h w c lo hi ot on = (0, 0, RL, Rw) ∧ ∃ (i : Nat) (x : Addr) (wa : Option Addr) (lw cw : Nat) (ba : Option Addr) (lb cb : Nat) (x0 y0 z0 H V C : Int), op = (i : Int) + 1 ∧ Fnd W oa on O Z B RL i x wa lw cw ba lb cb x0 y0 z0 H V C := by
  obtain ⟨Re, Ra, RL, Rw, hR⟩ : ∃ Re Ra RL Rw, gtR O h w c lo hi ot on = (Re, Ra, RL, Rw) := ⟨_, _, _, _, rfl⟩
  have hRe : Re = 0 := by
    by_cases q : Re = 0
    · exact q
    · rw [fiE_err (by rw [hR]) q] at hf; exact absurd hf q
  subst hRe
  obtain ⟨rfl, hl, h64, -, -, -⟩ := gtR_ok hR
  have ho : 1 ≤ op ∧ op ≤ (on : Int) := by
    by_cases q : 1 ≤ op ∧ op ≤ (on : Int)
    · exact q
    · rw [fiE_3 (by rw [hR]) q] at hf; cases hf
  obtain ⟨i, rfl⟩ : ∃ i : Nat, op = (i : Int) + 1 := ⟨(op - 1).toNat, by omega⟩
  have hi0 : i < on := by omega
  have hk : rdB (O i 0) = true := by
    cases q : rdB (O i 0) with
    | true => rfl
    | false => rw [fiE_81 (by rw [hR]) hi0 q] at hf; cases hf
  refine ⟨RL, Rw, hR, ?_⟩
  obtain ⟨x, rfl⟩ : ∃ x, oa = some x := by
    cases oa with
    | none => have h1 := hL.2.2.1 rfl; have h2 := hL.1; omega
    | some x => exact ⟨x, rfl⟩
  obtain ⟨wa, lw, cw, ba, lb, cb, e12, e13, hcell, hz, hb, -, -⟩ := hL.2.2.2 x rfl i hi0
  obtain ⟨j, hj, hji, hs⟩ := sit_of hR hi0 (of_decide_eq_true hk)
  obtain ⟨x0, y0, z0, hA⟩ : ∃ x0 y0 z0, RL.getD (O i 1).toNat (0, 0, 0) = (x0, y0, z0) := ⟨_, _, _, rfl⟩
  obtain ⟨H, V, C, hB⟩ : ∃ H V C, RL.getD (i + 1) (0, 0, 0) = (H, V, C) := ⟨_, _, _, rfl⟩
  have hS := hs x0 y0 z0 H V C (by unfold ShA; rw [← hj]; exact hA) (by unfold ShA; rw [Int.toNat_natCast]; exact hB)
  rw [e12, e13, Int.toNat_natCast, Int.toNat_natCast] at hS
  exact ⟨i, x, wa, lw, cw, ba, lb, cb, x0, y0, z0, H, V, C, rfl, hi0, rfl, e12, e13, hcell, hz, hb, hA, hB, hS, ⟨by omega, by omega⟩, hk⟩
theorem find_bad (h w c lo hi ot : Int) (oa : Option Addr) (on oc : Nat) (O : Nat → Nat → Int) (Z B : Nat → List Int) (W : World) (hL : LRow W oa on oc O Z B) (op E : Int) (hf : fiE O h w c lo hi ot on op = E) (hE : E ≠ 0) :
    Calls Try.prog 50 #[.agg #[.int .i64 h, .int .i64 w, .int .i64 c, .int .i64 lo, .int .i64 hi, .slice oa on oc, .int .i64 ot], .int .i64 op] W fun e w' => e = .returned (.tuple #[.agg #[.int .i64 0, .int .i64 0, .int .i64 0, .int .i64 0, .int .i64 0, .int .i64 0, .int .i64 0, .int .i64 0, .int .i64 0, .int .i64 0, .int .i64 0, .int .i64 0, .slice none 0 0, .slice none 0 0, .int .i64 0, .int .i64 0, .int .i64 0, .int .i64 0, .int .i64 0, .int .i64 0, .int .i64 0, .int .i64 0, .int .i64 0, .int .i64 0, .int .i64 0, .int .i64 0, .int .i64 0, .int .i64 0], .int .i64 E]) ∧ Below W.heap.size W w' := by
  obtain ⟨Re, Ra, RL, Rw, hR⟩ : ∃ Re Ra RL Rw, gtR O h w c lo hi ot on = (Re, Ra, RL, Rw) := ⟨_, _, _, _, rfl⟩
  by_cases q : Re = 0
  · subst q
    by_cases ho : 1 ≤ op ∧ op ≤ (on : Int)
    · obtain ⟨rfl, hl, h64, -, -, -⟩ := gtR_ok hR
      obtain ⟨i, rfl⟩ : ∃ i : Nat, op = (i : Int) + 1 := ⟨(op - 1).toNat, by omega⟩
      have hi0 : i < on := by omega
      cases hk : rdB (O i 0) with
      | true => rw [fiE_0 (by rw [hR]) hi0 hk] at hf; exact absurd hf.symm hE
      | false =>
        rw [fiE_81 (by rw [hR]) hi0 hk] at hf
        subst hf
        obtain ⟨x, rfl⟩ : ∃ x, oa = some x := by
          cases oa with
          | none => have h1 := hL.2.2.1 rfl; have h2 := hL.1; omega
          | some x => exact ⟨x, rfl⟩
        obtain ⟨wa, lw, cw, ba, lb, cb, e12, e13, hcell, hz, hb, -, -⟩ := hL.2.2.2 x rfl i hi0
        obtain ⟨j, hj, hji, -⟩ := (gtR_at hR).2 i hi0
        exact find_r h w c lo hi ot x on oc i O W hL.m hi0 wa lw cw ba lb cb hcell Rw RL hR (by omega) (by omega) _ _ _ _ _ _ rfl rfl false hk
    · rw [fiE_3 (by rw [hR]) ho] at hf
      subst hf
      exact find_3 h w c lo hi ot op oa on oc O W hL.m Ra Rw RL hR ho
  · rw [fiE_err (by rw [hR]) q] at hf
    subst hf
    exact find_e h w c lo hi ot op oa on oc O W hL.m _ Ra Rw RL hR hE
theorem find_ok (h w c lo hi ot : Int) (oa : Option Addr) (on oc : Nat) (O : Nat → Nat → Int) (Z B : Nat → List Int) (W : World) (hL : LRow W oa on oc O Z B) (RL : List (Int × Int × Int)) (Rw : Int) (hR : gtR O h w c lo hi ot on = (0, 0, RL, Rw)) (i : Nat) (x : Addr) (wa : Option Addr) (lw cw : Nat) (ba : Option Addr) (lb cb : Nat) (x0 y0 z0 H V C : Int) (hF : Fnd W oa on O Z B RL i x wa lw cw ba lb cb x0 y0 z0 H V C) :
    Calls Try.prog 50 #[.agg #[.int .i64 h, .int .i64 w, .int .i64 c, .int .i64 lo, .int .i64 hi, .slice oa on oc, .int .i64 ot], .int .i64 ((i : Int) + 1)] W fun e w' => e = .returned (.tuple #[.agg #[.int .i64 (O i 0), .int .i64 (O i 1), .int .i64 (O i 2), .int .i64 (O i 3), .int .i64 (O i 4), .int .i64 (O i 5), .int .i64 (O i 6), .int .i64 (O i 7), .int .i64 (O i 8), .int .i64 (O i 9), .int .i64 (O i 10), .int .i64 (O i 11), .slice wa lw cw, .slice ba lb cb, .int .i64 (O i 14), .int .i64 (O i 15), .int .i64 (O i 16), .int .i64 (O i 17), .int .i64 (O i 18), .int .i64 (O i 19), .int .i64 (O i 20), .int .i64 (O i 21), .int .i64 x0, .int .i64 y0, .int .i64 z0, .int .i64 H, .int .i64 V, .int .i64 C], .int .i64 0]) ∧ Below W.heap.size W w' := by
  obtain ⟨h1, rfl, h3, h4, h5, h6, h7, h8, h9, h10, h11, h12⟩ := hF
  exact find_r h w c lo hi ot x on oc i O W hL.m h1 wa lw cw ba lb cb h5 Rw RL hR h11.1 h11.2 _ _ _ _ _ _ h8 h9 true h12
end Go.Proofs.Ytcjnhchjikcigaa

/- What Length, Channels and Positions of package terms return. -/
namespace Go.Proofs.Ytcjnhchjikcigaa
open Go.ChangeShapes Go.WideShapes Go.ChangeAt Go.RowKit
set_option linter.unusedVariables false
set_option maxRecDepth 100000 in
set_option maxHeartbeats 2000000 in
theorem lenT_bad (h w c lo hi ot : Int) (oa : Option Addr) (on oc : Nat) (O : Nat → Nat → Int) (Z B : Nat → List Int) (W : World) (hL : LRow W oa on oc O Z B) (op E : Int) (hf : fiE O h w c lo hi ot on op = E) (hE : E ≠ 0) :
    Calls Try.prog 42 #[.agg #[.int .i64 h, .int .i64 w, .int .i64 c, .int .i64 lo, .int .i64 hi, .slice oa on oc, .int .i64 ot], .int .i64 op] W fun e w' => e = .returned (.tuple #[.int .i64 0, .int .i64 E]) ∧ Below W.heap.size W w' := by
  have s0 := (St.start W).new (c := #[.int .i64 h, .int .i64 w, .int .i64 c, .int .i64 lo, .int .i64 hi, .slice oa on oc, .int .i64 ot]) (t := 26)
  have hF : Hid (∀ W', Below W.heap.size W W' → _) := fun W' hb => find_bad h w c lo hi ot oa on oc O Z B W' (hL.below hb) op E hf hE
  have hE' : (E == 0) = false := by simp [hE]
  clear hf hL
  go_enter Try.func42, Try.ntmps42
  go_wp2_with fail
  refine (hF.out _ s0.below).mono ?_
  rintro e w1 ⟨rfl, hb⟩
  have s1 := (s0.call hb).new (c := #[.int .i64 0, .int .i64 0, .int .i64 0, .int .i64 0, .int .i64 0, .int .i64 0, .int .i64 0, .int .i64 0, .int .i64 0, .int .i64 0, .int .i64 0, .int .i64 0, .slice none 0 0, .slice none 0 0, .int .i64 0, .int .i64 0, .int .i64 0, .int .i64 0, .int .i64 0, .int .i64 0, .int .i64 0, .int .i64 0, .int .i64 0, .int .i64 0, .int .i64 0, .int .i64 0, .int .i64 0, .int .i64 0]) (t := 106)
  clear hb
  go_wp2_with (refine wpList_st_new rfl 106 (.tmp 6) (.tmp 12) rfl w1 _ #[.int .i64 0, .int .i64 0, .int .i64 0, .int .i64 0, .int .i64 0, .int .i64 0, .int .i64 0, .int .i64 0, .int .i64 0, .int .i64 0, .int .i64 0, .int .i64 0, .slice none 0 0, .slice none 0 0, .int .i64 0, .int .i64 0, .int .i64 0, .int .i64 0, .int .i64 0, .int .i64 0, .int .i64 0, .int .i64 0, .int .i64 0, .int .i64 0, .int .i64 0, .int .i64 0, .int .i64 0, .int .i64 0] rfl rfl (by kernel_rfl) rfl (by simp [Value.oneCell']) ?_)
  go_ret2
  exact ⟨rfl, s1.below⟩
set_option maxRecDepth 100000 in
set_option maxHeartbeats 2000000 in
theorem lenT_ok (h w c lo hi ot : Int) (oa : Option Addr) (on oc : Nat) (O : Nat → Nat → Int) (Z B : Nat → List Int) (W : World) (hL : LRow W oa on oc O Z B) (RL : List (Int × Int × Int)) (Rw : Int) (hR : gtR O h w c lo hi ot on = (0, 0, RL, Rw)) (i : Nat) (x : Addr) (wa : Option Addr) (lw cw : Nat) (ba : Option Addr) (lb cb : Nat) (x0 y0 z0 H V C : Int) (hF : Fnd W oa on O Z B RL i x wa lw cw ba lb cb x0 y0 z0 H V C) :
    Calls Try.prog 42 #[.agg #[.int .i64 h, .int .i64 w, .int .i64 c, .int .i64 lo, .int .i64 hi, .slice oa on oc, .int .i64 ot], .int .i64 ((i : Int) + 1)] W fun e w' => e = .returned (.tuple #[.int .i64 (stR (O i 0) (O i 4) (O i 5) x0 y0 z0), .int .i64 0]) ∧ Below W.heap.size W w' := by
  have s0 := (St.start W).new (c := #[.int .i64 h, .int .i64 w, .int .i64 c, .int .i64 lo, .int .i64 hi, .slice oa on oc, .int .i64 ot]) (t := 26)
  have hSit : Hid (Sit (O i 0) (O i 4) (O i 5) (O i 6) (O i 7) (O i 8) (O i 9) (O i 10) (O i 11) x0 y0 z0 H V C lw lb) := hF.2.2.2.2.2.2.2.2.2.1
  have hK : Hid (∀ W', Below W.heap.size W W' → _) := fun W' hb => find_ok h w c lo hi ot oa on oc O Z B W' (hL.below hb) RL Rw hR i x wa lw cw ba lb cb x0 y0 z0 H V C (hF.below hb)
  clear hF hR hL
  go_enter Try.func42, Try.ntmps42
  go_wp2_with fail
  refine (hK.out _ s0.below).mono ?_
  rintro e w1 ⟨rfl, hb⟩
  have s1 := (s0.call hb).new (c := #[.int .i64 (O i 0), .int .i64 (O i 1), .int .i64 (O i 2), .int .i64 (O i 3), .int .i64 (O i 4), .int .i64 (O i 5), .int .i64 (O i 6), .int .i64 (O i 7), .int .i64 (O i 8), .int .i64 (O i 9), .int .i64 (O i 10), .int .i64 (O i 11), .slice wa lw cw, .slice ba lb cb, .int .i64 (O i 14), .int .i64 (O i 15), .int .i64 (O i 16), .int .i64 (O i 17), .int .i64 (O i 18), .int .i64 (O i 19), .int .i64 (O i 20), .int .i64 (O i 21), .int .i64 x0, .int .i64 y0, .int .i64 z0, .int .i64 H, .int .i64 V, .int .i64 C]) (t := 106)
  clear hb
  go_wp2_with (refine wpList_st_new rfl 106 (.tmp 6) (.tmp 12) rfl w1 _ #[.int .i64 (O i 0), .int .i64 (O i 1), .int .i64 (O i 2), .int .i64 (O i 3), .int .i64 (O i 4), .int .i64 (O i 5), .int .i64 (O i 6), .int .i64 (O i 7), .int .i64 (O i 8), .int .i64 (O i 9), .int .i64 (O i 10), .int .i64 (O i 11), .slice wa lw cw, .slice ba lb cb, .int .i64 (O i 14), .int .i64 (O i 15), .int .i64 (O i 16), .int .i64 (O i 17), .int .i64 (O i 18), .int .i64 (O i 19), .int .i64 (O i 20), .int .i64 (O i 21), .int .i64 x0, .int .i64 y0, .int .i64 z0, .int .i64 H, .int .i64 V, .int .i64 C] rfl rfl (by kernel_rfl) rfl (by simp [Value.oneCell']) ?_)
  refine (tlen_any (O i 0) (O i 1) (O i 2) (O i 3) (O i 4) (O i 5) (O i 6) (O i 7) (O i 8) (O i 9) (O i 10) (O i 11) wa lw cw ba lb cb (O i 14) (O i 15) (O i 16) (O i 17) (O i 18) (O i 19) (O i 20) (O i 21) x0 y0 z0 H V C _ _ (heap_alloc_new w1 _) hSit.out).mono ?_
  rintro e w2 ⟨rfl, hw2⟩
  have hb2 : Hid (Below W.heap.size W w2) := by first | (obtain ⟨n, rfl⟩ := hw2; exact bt s1.below (dbel _ n)) | (subst hw2; exact s1.below)
  clear hw2
  go_wp2
  go_ret2
  exact ⟨rfl, hb2.out⟩
end Go.Proofs.Ytcjnhchjikcigaa

/- The document's size of a number, and a size with a sign: for every argument that fits its type. -/
namespace Go.Proofs.Ytcjnhchjikcigaa.Fx
open Go.ChangeShapes Go.WideShapes Go.ChangeAt Go.RowKit
def sizeV (x : Int) : Int := if x < 0 then -x else x
theorem sizeV_bd (x : Int) (h : I64 x) : 0 ≤ sizeV x ∧ sizeV x ≤ 9223372036854775808 := by unfold sizeV; unfold I64 at h; split <;> omega
theorem u64w (x : Int) : IntKind.u64.wrap x = x % 18446744073709551616 := by simp [IntKind.wrap, IntKind.bits, IntKind.signed]
end Go.Proofs.Ytcjnhchjikcigaa.Fx

/- Quotients rounded half away from zero, as plain numbers. -/
namespace Go.Proofs.Ytcjnhchjikcigaa.Fx
def hq (s d : Int) : Int := if d ≤ 2 * (s % d) then s / d + 1 else s / d
def rq (x d : Int) : Int := if x < 0 then -(hq (-x) d) else hq x d
def p2 (n : Int) : Int := 2 ^ n.toNat
theorem hq_bd (s d : Int) (hs : 0 ≤ s) (hd : 1 ≤ d) : 0 ≤ hq s d ∧ hq s d ≤ s := by
  have e := Int.mul_ediv_add_emod s d
  have r0 := Int.emod_nonneg s (show d ≠ 0 by omega)
  have r1 := Int.emod_lt_of_pos s (show 0 < d by omega)
  have q0 := Int.ediv_nonneg hs (show 0 ≤ d by omega)
  have q1 : s / d ≤ d * (s / d) := by
    have := Int.mul_le_mul_of_nonneg_right hd q0
    omega
  unfold hq
  split <;> omega
theorem rq_size (x d : Int) (hd : 1 ≤ d) : -(sizeV x) ≤ rq x d ∧ rq x d ≤ sizeV x ∧ (x < 0 → rq x d ≤ 0) ∧ (¬ x < 0 → 0 ≤ rq x d) := by
  unfold rq sizeV
  by_cases h : x < 0
  · have := hq_bd (-x) d (by omega) hd
    rw [if_pos h, if_pos h]; omega
  · have := hq_bd x d (by omega) hd
    rw [if_neg h, if_neg h]; omega
theorem rq_I64 (x d : Int) (hx : I64 x) (hd : 1 ≤ d) : I64 (rq x d) := by
  obtain ⟨h1, h2, h3, h4⟩ := rq_size x d hd
  unfold sizeV at h1 h2
  unfold I64 at *
  by_cases h : x < 0
  · have := h3 h
    rw [if_pos h] at h1 h2; omega
  · have := h4 h
    rw [if_neg h] at h1 h2; omega
theorem p2_nat (n : Int) : p2 n = ((2 ^ n.toNat : Nat) : Int) := by
  unfold p2; simp
theorem p2_pos (n : Int) : 1 ≤ p2 n := by
  rw [p2_nat]
  have := Nat.two_pow_pos n.toNat
  omega
theorem p2_le (n : Int) (h : n ≤ 62) : p2 n ≤ 4611686018427387904 := by
  rw [p2_nat]
  have := Nat.pow_le_pow_right (show 0 < 2 by omega) (show n.toNat ≤ 62 by omega)
  omega
end Go.Proofs.Ytcjnhchjikcigaa.Fx

/- What the inner functions of package fixq, Shift, Mean and Finish return: each for every argument that fits its type. -/
namespace Go.Proofs.Ytcjnhchjikcigaa.Fx
open Go.ChangeShapes Go.WideShapes Go.ChangeAt Go.RowKit
theorem tdiv_neg' (x d : Int) (hx : x < 0) : x.tdiv d = -((-x) / d) ∧ x.tmod d = -((-x) % d) := by
  have e := Int.tmod_eq_emod_of_nonneg (a := -x) (b := d) (by omega)
  have f := Int.tdiv_eq_ediv_of_nonneg (a := -x) (b := d) (by omega)
  rw [Int.neg_tmod] at e
  rw [Int.neg_tdiv] at f
  omega
theorem drewN_below (w : World) (n : Nat) : Below w.heap.size w (w.drewN n) := below_drewN (Below.refl _ _) n
def shB (n : Int) : Bool := decide (0 ≤ n ∧ n ≤ 62)
def shV (x n : Int) : Int := if shB n = true then rq x (p2 n) else 0
def shE (n : Int) : Int := if shB n = true then 0 else 20
theorem p2_wrap (n : Int) (h : n ≤ 62) : wrap64 (2 ^ n.toNat) = p2 n := by
  have h1 := p2_pos n
  have h2 := p2_le n h
  show wrap64 (p2 n) = p2 n
  exact IntWalk.wrap64_in _ ⟨by omega, by omega⟩
theorem reach_any (n : Int) (w : World) :
    Calls Try.prog 80 #[.int .i64 n] w fun e w' => e = .returned (.bool (shB n)) ∧ w' = w := by
  by_cases c : 0 ≤ n
  · have HR : Hid (decide (n ≤ 62) = shB n) := by unfold Hid shB; simp [c]
    go_enter Try.func80, Try.ntmps80
    go_wp2
    go_ret
    exact ⟨retB HR.out, rfl⟩
  · have HR : Hid (false = shB n) := by unfold Hid shB; simp; omega
    go_enter Try.func80, Try.ntmps80
    go_wp2
    go_ret
    exact ⟨retB HR.out, rfl⟩
def meV (x n : Int) : Int := if n < 1 then 0 else rq x n
def meE (n : Int) : Int := if n < 1 then 2 else 0
def vaB (x : Int) : Bool := decide (-128 ≤ x ∧ x ≤ 127)
def fiB (z lo hi : Int) : Bool := decide (-128 ≤ lo ∧ lo ≤ hi ∧ hi ≤ 127 ∧ -128 ≤ z ∧ z ≤ 127)
def fiV (v z lo hi : Int) : Int := if fiB z lo hi = true then clampV (v + z) lo hi else 0
def fiE (z lo hi : Int) : Int := if fiB z lo hi = true then 0 else 85
theorem clamp_moved (v z lo hi : Int) : clampV v (lo - z) (hi - z) + z = clampV (v + z) lo hi := by
  unfold clampV
  by_cases c1 : hi - z < v
  · rw [if_pos c1, if_pos (show hi < v + z by omega)]; omega
  · rw [if_neg c1, if_neg (show ¬ hi < v + z by omega)]
    by_cases c2 : v < lo - z
    · rw [if_pos c2, if_pos (show v + z < lo by omega)]; omega
    · rw [if_neg c2, if_neg (show ¬ v + z < lo by omega)]
theorem clamp_in_ends (v lo hi : Int) (h : lo ≤ hi) : lo ≤ clampV v lo hi ∧ clampV v lo hi ≤ hi := by
  unfold clampV; split
  · omega
  · split <;> omega
end Go.Proofs.Ytcjnhchjikcigaa.Fx

/- What Valid and Apply of package fixq return: each for every argument that fits its type. -/
namespace Go.Proofs.Ytcjnhchjikcigaa.Fx
open Go.ChangeShapes Go.WideShapes Go.ChangeAt Go.RowKit
theorem bcell {W w1 : World} (hb : Below W.heap.size W w1) : (∀ b o, b < W.heap.size → w1.cell? ⟨b, o, none⟩ = W.cell? ⟨b, o, none⟩) ∧ (∀ b o, b < W.heap.size → w1.frozen? ⟨b, o, none⟩ = W.frozen? ⟨b, o, none⟩) :=
  ⟨fun b o h => hb.cell (p := ⟨b, o, none⟩) h, fun b o h => hb.frozen (p := ⟨b, o, none⟩) h⟩
def scB (m s : Int) : Bool := decide (1 ≤ m ∧ m ≤ 2147483647 ∧ 0 ≤ s ∧ s ≤ 62)
def acB (a : Int) : Bool := decide (-4294967296 ≤ a ∧ a ≤ 4294967296)
def apV (a m s : Int) : Int := if scB m s = true then (if acB a = true then rq (a * m) (p2 s) else 0) else 0
def apE (a m s : Int) : Int := if scB m s = true then (if acB a = true then 0 else 10) else 20
theorem prod_bd (a m : Int) (a1 : -4294967296 ≤ a) (a2 : a ≤ 4294967296) (m1 : 1 ≤ m) (m2 : m ≤ 2147483647) : -9223372032559808512 ≤ a * m ∧ a * m ≤ 9223372032559808512 := by
  have h1 := Int.mul_le_mul_of_nonneg_right a1 (show 0 ≤ m by omega)
  have h2 := Int.mul_le_mul_of_nonneg_right a2 (show 0 ≤ m by omega)
  omega
theorem valid_any (m s : Int) (w : World) :
    Calls Try.prog 73 #[.agg #[.int .i64 m, .int .i64 s]] w fun e w' => e = .returned (.bool (scB m s)) ∧ Below w.heap.size w w' := by
  by_cases c1 : 1 ≤ m
  · by_cases c2 : m ≤ 2147483647
    · have HR : Hid (shB s = scB m s) := by unfold Hid shB scB; simp [c1, c2]
      go_enter Try.func73, Try.ntmps73
      go_wp2_with fail
      refine (reach_any _ _).mono ?_
      rintro e w' ⟨rfl, rfl⟩
      go_wp2
      go_ret
      exact ⟨retB HR.out, (Below.refl _ _).alloc (Nat.le_refl _) _⟩
    · have HR : Hid (false = scB m s) := by unfold Hid scB; simp [c2]
      go_enter Try.func73, Try.ntmps73
      go_wp2
      go_ret
      exact ⟨retB HR.out, (Below.refl _ _).alloc (Nat.le_refl _) _⟩
  · have HR : Hid (false = scB m s) := by unfold Hid scB; simp [c1]
    go_enter Try.func73, Try.ntmps73
    go_wp2
    go_ret
    exact ⟨retB HR.out, (Below.refl _ _).alloc (Nat.le_refl _) _⟩
end Go.Proofs.Ytcjnhchjikcigaa.Fx
