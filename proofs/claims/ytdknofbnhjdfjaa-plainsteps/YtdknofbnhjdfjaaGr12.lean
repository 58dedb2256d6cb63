/- Shapes in a block of their own; one op in plain numbers; laws of memory for take and one. A region that draws its order and whose last operations wait for all that stands ahead of them: what stands ahead is walked once, in the order of the text, in every world of a class; what is last is walked as it stands. -/
import Derived.Test.YtdknofbnhjdfjaaGr09
import Derived.Test.YtdknofbnhjdfjaaGr10
import Derived.Test.YtdknofbnhjdfjaaGr11
import Derived.Sort.BigQuietIn
import Derived.TacticsIn
/- Shapes in a block of their own; one op in plain numbers; laws of memory for take and one. -/
namespace Go.Proofs.Ytdknofbnhjdfjaa
open Go.ChangeShapes Go.WideShapes Go.ChangeAt Go.RowKit
set_option linter.unusedVariables false
/-! ### A load of a whole struct, in a region that draws its order -/
theorem Wd.hp {w0 : World} {l : List (Nat × Array Value × TypeId)} {B : Nat} {c : Array Value} {t : TypeId} (hm : (B, c, t) ∈ l) : ∀ w, (∃ n : Wd w0 l, w = n.w) → w.heap[B]? = some (.cells c t (0, 0)) := by
  rintro w ⟨n, rfl⟩
  exact (n.h.2 _ hm).1
/-! ### Shapes -/
def s3 : List (Int × Int × Int) → List Value
  | [] => []
  | s :: l => .int .i64 s.1 :: .int .i64 s.2.1 :: .int .i64 s.2.2 :: s3 l
theorem s3_len : ∀ l : List (Int × Int × Int), (s3 l).length = l.length * 3
  | [] => rfl
  | s :: l => by simp only [s3, List.length_cons, s3_len l]; omega
theorem s3_app : ∀ l r : List (Int × Int × Int), s3 (l ++ r) = s3 l ++ s3 r
  | [], _ => rfl
  | s :: l, r => by simp only [List.cons_append, s3, s3_app l r]
theorem s3_at : ∀ (l : List (Int × Int × Int)) (i : Nat), i < l.length → (s3 l)[i * 3]? = some (.int .i64 (l.getD i (0, 0, 0)).1) ∧ (s3 l)[i * 3 + 1]? = some (.int .i64 (l.getD i (0, 0, 0)).2.1) ∧ (s3 l)[i * 3 + 2]? = some (.int .i64 (l.getD i (0, 0, 0)).2.2)
  | [], _, h => by simp at h
  | s :: l, 0, _ => ⟨rfl, rfl, rfl⟩
  | s :: l, i + 1, h => by
    have := s3_at l i (by simpa using h)
    rw [show (i + 1) * 3 = i * 3 + 3 by omega]
    simpa [s3, List.getD] using this
/-- A block that holds these shapes, with room for 'cap'. -/
def Cu (cur : Array Value) (cap : Nat) (L : List (Int × Int × Int)) : Prop := cur.size = cap * 3 ∧ L.length ≤ cap ∧ cur.toList.take (L.length * 3) = s3 L
theorem Cu.at {cur : Array Value} {cap : Nat} {L : List (Int × Int × Int)} (h : Cu cur cap L) {i : Nat} (hi : i < L.length) :
    cur[i * 3]? = some (.int .i64 (L.getD i (0, 0, 0)).1) ∧ cur[i * 3 + 1]? = some (.int .i64 (L.getD i (0, 0, 0)).2.1) ∧ cur[i * 3 + 2]? = some (.int .i64 (L.getD i (0, 0, 0)).2.2) := by
  have g : ∀ j, j < L.length * 3 → cur[j]? = (s3 L)[j]? := fun j hj => by rw [← h.2.2, List.getElem?_take, if_pos hj]; simp
  obtain ⟨a1, a2, a3⟩ := s3_at L i hi
  exact ⟨(g _ (by omega)).trans a1, (g _ (by omega)).trans a2, (g _ (by omega)).trans a3⟩
theorem Cu.add {cur : Array Value} {cap : Nat} {L : List (Int × Int × Int)} (h : Cu cur cap L) (hr : L.length < cap) (x y z : Int) :
    Cu (((cur.setIfInBounds (L.length * 3) (.int .i64 x)).setIfInBounds (L.length * 3 + 1) (.int .i64 y)).setIfInBounds (L.length * 3 + 2) (.int .i64 z)) cap (L ++ [(x, y, z)]) := by
  obtain ⟨h1, h2, h3⟩ := h
  refine ⟨by simp [h1], by simp; omega, ?_⟩
  rw [s3_app, ← h3]
  apply List.ext_getElem?
  intro j
  have hsz : cur.toList.length = cap * 3 := by simpa using h1
  simp only [List.length_append, List.length_cons, List.length_nil, Array.toList_setIfInBounds]
  rw [List.getElem?_take]
  have hl : (cur.toList.take (L.length * 3)).length = L.length * 3 := by rw [List.length_take]; omega
  by_cases q1 : j < L.length * 3
  · rw [if_pos (by omega), List.getElem?_append_left (by omega), List.getElem?_take, if_pos q1]
    rw [List.getElem?_set_ne (by omega), List.getElem?_set_ne (by omega), List.getElem?_set_ne (by omega)]
  · rw [List.getElem?_append_right (by omega), hl]
    by_cases q2 : j < L.length * 3 + 3
    · rw [if_pos (by omega)]
      rcases (show j = L.length * 3 ∨ j = L.length * 3 + 1 ∨ j = L.length * 3 + 2 by omega) with rfl | rfl | rfl
      · rw [List.getElem?_set_ne (by omega), List.getElem?_set_ne (by omega), List.getElem?_set_self (by omega), Nat.sub_self]; rfl
      · rw [List.getElem?_set_ne (by omega), List.getElem?_set_self (by simp; omega), show L.length * 3 + 1 - L.length * 3 = 1 by omega]; rfl
      · rw [List.getElem?_set_self (by simp; omega), show L.length * 3 + 2 - L.length * 3 = 2 by omega]; rfl
    · rw [if_neg (by omega), List.getElem?_eq_none (by simp [s3]; omega)]
/-! ### One op -/
def ShA (L : List (Int × Int × Int)) (a : Int) : Int × Int × Int := L.getD a.toNat (0, 0, 0)
def mk3 (k m kh kw sh sw tp lf bt rt : Int) (s : Int × Int × Int) : Int × Int × Int := mkS k m kh kw sh sw tp lf bt rt s.1 s.2.1 s.2.2
def st3 (k kh kw : Int) (s : Int × Int × Int) : Int := stR k kh kw s.1 s.2.1 s.2.2
def opE (k a b m kh kw sh sw tp lf bt rt : Int) (lw lb : Nat) (sm ss um us z p lo hi : Int) (L : List (Int × Int × Int)) : Int :=
  if fmE k a b L.length (ozB k b m kh kw sh sw tp lf bt rt lw lb sm ss um us z p) ≠ 0 then fmE k a b L.length (ozB k b m kh kw sh sw tp lf bt rt lw lb sm ss um us z p)
  else if mkE k m kh kw sh sw tp lf bt rt (ShA L a).1 (ShA L a).2.1 (ShA L a).2.2 ≠ 0 then mkE k m kh kw sh sw tp lf bt rt (ShA L a).1 (ShA L a).2.1 (ShA L a).2.2
  else if k = 6 ∧ ShA L a ≠ ShA L b then 50
  else if rdB k = true ∧ 512 < st3 k kh kw (ShA L a) then 84
  else nuE k (mk3 k m kh kw sh sw tp lf bt rt (ShA L a)).2.2 (st3 k kh kw (ShA L a)) lw lb sm ss um us z p lo hi
def opW (k m kh kw sh sw tp lf bt rt : Int) (s : Int × Int × Int) : Int := (mk3 k m kh kw sh sw tp lf bt rt s).1 * (mk3 k m kh kw sh sw tp lf bt rt s).2.1 * (mk3 k m kh kw sh sw tp lf bt rt s).2.2 * st3 k kh kw s
def tkE (k a b m kh kw sh sw tp lf bt rt : Int) (lw lb : Nat) (sm ss um us z p lo hi : Int) (L : List (Int × Int × Int)) (wk : Int) : Int :=
  if opE k a b m kh kw sh sw tp lf bt rt lw lb sm ss um us z p lo hi L ≠ 0 then opE k a b m kh kw sh sw tp lf bt rt lw lb sm ss um us z p lo hi L else if 131072 < wk + opW k m kh kw sh sw tp lf bt rt (ShA L a) then 86 else 0
end Go.Proofs.Ytdknofbnhjdfjaa

/- A region that draws its order and whose last operations wait for all that stands ahead of them: what stands ahead is walked once, in the order of the text, in every world of a class; what is last is walked as it stands. -/
namespace Go.Proofs.Ytdknofbnhjdfjaa
open Go.RowKit
section
variable {F : Fence} {n : Nat} {P : Program} {ops : Array Oper} {md : Region.Mode} {C : World → Prop} {Q : Exit → Act → World → Prop} {k : Nat}
/-- Whatever has come up, what it waits for has. -/
def Shut (md : Region.Mode) (ops : Array Oper) (listed : Array Bool) : Prop :=
  ∀ j o, ops[j]? = some o → listed.getD j true = true → j < listed.size → ∀ e ∈ o.after, Region.binds md e = true → listed.getD e.on false = true
theorem getD_lt {listed : Array Bool} {i : Nat} (h : listed.getD i false = true) : i < listed.size := by
  rcases Nat.lt_or_ge i listed.size with h' | h'
  · exact h'
  · simp [Array.getElem?_eq_none h'] at h
theorem Shut.set {listed : Array Bool} {j : Nat} (h : Shut md ops listed) (hj : j ∈ Region.ready md ops listed) : Shut md ops (listed.setIfInBounds j true) := by
  intro i o ho hi hlt e he hb
  by_cases hij : i = j
  · subst hij
    obtain ⟨_, o', ho', hall⟩ := mem_ready.1 hj
    rw [ho] at ho'; cases ho'
    exact getD_set_true (hall e he hb)
  · rw [getD_set_ne true (Ne.symm hij)] at hi
    exact getD_set_true (h i o ho hi (by simpa using hlt) e he hb)
/-- What an operation waits for. -/
def waits (md : Region.Mode) (ops : Array Oper) (j : Nat) : List Nat :=
  match ops[j]? with
  | some o => ((o.after.toList.filter fun e => Region.binds md e).map fun e => e.on)
  | none => []
def allWaits (md : Region.Mode) (ops : Array Oper) : Nat → List Nat → List Nat
  | 0, s => s
  | f + 1, s => s ++ allWaits md ops f (s.flatMap (waits md ops))
theorem allWaits_listed {listed : Array Bool} (h : Shut md ops listed) : ∀ (f : Nat) (s : List Nat), (∀ i ∈ s, listed.getD i false = true) → ∀ i ∈ allWaits md ops f s, listed.getD i false = true
  | 0, _, hs, i, hi => hs i hi
  | f + 1, s, hs, i, hi => by
    rcases List.mem_append.1 hi with hi | hi
    · exact hs i hi
    · refine allWaits_listed h f _ (fun i' hi' => ?_) i hi
      obtain ⟨j, hj, hj'⟩ := List.mem_flatMap.1 hi'
      unfold waits at hj'
      cases ho : ops[j]? with
      | none => rw [ho] at hj'; cases hj'
      | some o =>
        rw [ho] at hj'
        simp only [List.mem_map, List.mem_filter] at hj'
        obtain ⟨e, ⟨he, hb⟩, rfl⟩ := hj'
        have h1 := hs j hj
        have h2 := getD_lt h1
        exact h j o ho (by simp [h2] at h1 ⊢; exact h1) h2 e (by simpa using he) hb
/-- Each operation from number k on waits for all that stand ahead of number k. -/
def coverB (md : Region.Mode) (ops : Array Oper) (k : Nat) : Bool :=
  (List.range ops.size).all fun j => decide (j < k) || (List.range k).all fun i => (allWaits md ops ops.size (waits md ops j)).contains i
theorem cover_spec {listed : Array Bool} (h : Shut md ops listed) (hT : coverB md ops k = true) {i j : Nat} (hj : j ∈ Region.ready md ops listed) (hk : ¬ j < k) (hi : i < k) : listed.getD i false = true := by
  obtain ⟨_, o, ho, hall⟩ := mem_ready.1 hj
  simp only [coverB, List.all_eq_true, List.mem_range, Bool.or_eq_true, decide_eq_true_eq] at hT
  rcases hT j (Array.getElem?_eq_some_iff.1 ho).1 with h1 | h1
  · exact absurd h1 hk
  · have h2 := h1 i hi
    refine allWaits_listed h _ _ (fun i' hi' => ?_) i (by simpa using h2)
    unfold waits at hi'
    rw [ho] at hi'
    simp only [List.mem_map, List.mem_filter] at hi'
    obtain ⟨e, ⟨he, hb⟩, rfl⟩ := hi'
    exact hall e (by simpa using he) hb
/-- Whatever order is picked from here on: quiet ahead of number k; from k on, as it stands. -/
def wpAnyT (F : Fence) (n : Nat) (P : Program) (md : Region.Mode) (ops : Array Oper) (C : World → Prop) (Q : Exit → Act → World → Prop) (k : Nat) : Nat → Array Bool → Act → Prop
  | 0, listed, a => Region.ready md ops listed = [] ∧ ∀ w, C w → Q .normal a w
  | fuel + 1, listed, a =>
    (Region.ready md ops listed = [] → ∀ w, C w → Q .normal a w) ∧
    ∀ i ∈ Region.ready md ops listed, (i < k → qOpIn F n P ops C i (wpAnyT F n P md ops C Q k fuel (listed.setIfInBounds i true)) a) ∧
      (¬ i < k → ∀ w, C w → wpOpIn F n P ops Q i (wpAnyIn F n P md ops Q fuel (listed.setIfInBounds i true)) a w)
theorem wpAnyIn_of_T (hro : F.round = none) : ∀ (fuel : Nat) (listed : Array Bool) (a : Act) (w : World), C w → wpAnyT F n P md ops C Q k fuel listed a → wpAnyIn F n P md ops Q fuel listed a w
  | 0, _, _, _, hw, h => ⟨h.1, h.2 _ hw⟩
  | fuel + 1, _, _, _, hw, h => ⟨fun h0 => h.1 h0 _ hw, fun i hi => by
      by_cases hik : i < k
      · exact wpOpIn_of_qOpIn hro hw (fun a' w' hw' => wpAnyIn_of_T hro fuel _ a' w' hw') ((h.2 i hi).1 hik)
      · exact (h.2 i hi).2 hik _ hw⟩
theorem wpAnyT_first {i : Nat} {oi : Oper} {v : Value} (hi : ops[i]? = some oi) (hik : i < k) (hT : coverB md ops k = true) (hsel : ∀ (j : Nat) (o : Oper) cs b, ops[j]? = some o → o.op ≠ .select cs b) :
    ∀ (fuel : Nat) (listed : Array Bool) (a : Act), Shut md ops listed →
      (∀ j oj, ops[j]? = some oj → j ≠ i → listed.getD j true = false → (∀ e ∈ oj.after, Region.binds md e = true → e.on ≠ i) → oi.apart ops oj = true) →
      i ∈ Region.ready md ops listed → YieldsQuiet F n P ops C oi v a →
      wpAnyT F n P md ops C Q k fuel (listed.setIfInBounds i true) (a.put oi.dst v) → wpAnyT F n P md ops C Q k (fuel + 1) listed a := by
  intro fuel
  induction fuel with
  | zero =>
    intro listed a _ _ hr hy H
    refine ⟨fun h => (by rw [h] at hr; cases hr), fun j hj => ?_⟩
    by_cases hji : j = i
    · subst hji; exact ⟨fun _ => hy.qOpIn hi H, fun h => absurd hik h⟩
    · have := ready_mono hj hji
      rw [H.1] at this
      cases this
  | succ fuel ih =>
    intro listed a hS hfree hr hy H
    refine ⟨fun h => (by rw [h] at hr; cases hr), fun j hj => ?_⟩
    by_cases hji : j = i
    · subst hji; exact ⟨fun _ => hy.qOpIn hi H, fun h => absurd hik h⟩
    · refine ⟨fun hjk => ?_, fun hjk => ?_⟩
      · have h1 := (H.2 j (ready_mono hj hji)).1 hjk
        obtain ⟨hjun, oj, hoj, hall⟩ := mem_ready.1 hj
        have hnot : ∀ e ∈ oj.after, Region.binds md e = true → e.on ≠ i := fun e he hb heq => by
          have h1 := hall e he hb
          have h0 := (mem_ready.1 hr).1
          rw [heq] at h1
          have := getD_lt h1
          simp [this] at h0 h1; rw [h0] at h1; cases h1
        have h2 := qOpIn_put hoj (hfree j oj hoj hji hjun hnot) (fun cs b => hsel i oi cs b hi) (fun cs b => hsel j oj cs b hoj) hy h1
        have hfree' : ∀ k ok, ops[k]? = some ok → k ≠ i → (listed.setIfInBounds j true).getD k true = false →
            (∀ e ∈ ok.after, Region.binds md e = true → e.on ≠ i) → oi.apart ops ok = true := fun k ok hk hki hun hno => by
          refine hfree k ok hk hki ?_ hno
          by_cases hjk : j = k
          · subst hjk; exact hjun
          · rw [getD_set_ne true hjk] at hun; exact hun
        refine qOpIn_mono (fun a' h3 => ih (listed.setIfInBounds j true) a' (hS.set hj) hfree' (ready_mono hr (Ne.symm hji)) h3.1 ?_) h2
        rw [Array.setIfInBounds_comm _ _ hji]
        exact h3.2
      · have h1 := cover_spec hS hT hj hjk hik
        have h0 := (mem_ready.1 hr).1
        have := getD_lt h1
        simp [this] at h0 h1; rw [h0] at h1; cases h1
/-- From number i on each operation waits for the one ahead. -/
def chainFrom (md : Region.Mode) (ops : Array Oper) : Nat → Nat → Array Bool → Bool
  | 0, _, listed => (Region.ready md ops listed).isEmpty
  | f + 1, i, listed => decide (Region.ready md ops listed = [i]) && chainFrom md ops f (i + 1) (listed.setIfInBounds i true)
theorem any_of_chain : ∀ (l : List Oper) (i : Nat) (listed : Array Bool) (a : Act) (w : World), (∀ j, l[j]? = ops[i + j]?) → chainFrom md ops l.length i listed = true → wpListIn F n P ops Q l a w → wpAnyIn F n P md ops Q l.length listed a w
  | [], _, _, _, _, _, hB, h => ⟨by simpa [chainFrom] using hB, h⟩
  | o :: l, i, listed, a, w, hl, hB, h => by
    have h0 : ops[i]? = some o := by simpa using (hl 0).symm
    simp only [List.length_cons, chainFrom, Bool.and_eq_true, decide_eq_true_eq] at hB
    refine wpAnyIn_all hB.1 (by simp) fun j hj => ?_
    obtain rfl : j = i := by simpa using hj
    have ih := any_of_chain l (j + 1) (listed.setIfInBounds j true)
    have hl' : ∀ m, l[m]? = ops[j + 1 + m]? := fun m => by have := hl (m + 1); simpa [Nat.add_assoc, Nat.add_comm 1 m] using this
    refine wpOpIn_mono (fun a' w' h' => ih a' w' hl' hB.2 h') ?_
    unfold wpOpIn
    simp only [h0]
    exact h
def headFrom (md : Region.Mode) (ops : Array Oper) (m : Nat) : Nat → Nat → Array Bool → Bool
  | 0, i, listed => chainFrom md ops m i listed
  | f + 1, i, listed => (Region.ready md ops listed).contains i && Region.free md ops listed i && headFrom md ops m f (i + 1) (listed.setIfInBounds i true)
theorem anyT_of_chain {l : List Oper} {i : Nat} {listed : Array Bool} {a : Act} (hk : ¬ i < k) (hl : ∀ j, l[j]? = ops[i + j]?) (hB : chainFrom md ops l.length i listed = true) (h : ∀ w, C w → wpListIn F n P ops Q l a w) : wpAnyT F n P md ops C Q k l.length listed a := by
  cases l with
  | nil => exact ⟨by simpa [chainFrom] using hB, h⟩
  | cons o l =>
    have hB' := hB
    simp only [List.length_cons, chainFrom, Bool.and_eq_true, decide_eq_true_eq] at hB'
    refine ⟨fun h0 => absurd (hB'.1 ▸ h0) (by simp), fun j hj => ?_⟩
    rw [hB'.1] at hj
    obtain rfl : j = i := by simpa using hj
    refine ⟨fun h => absurd h hk, fun _ w hw => ?_⟩
    have := any_of_chain (o :: l) j listed a w hl hB (h w hw)
    exact this.2 j (by rw [hB'.1]; simp)
theorem wpAnyT_lex {t : List Oper} (hs : Region.noSelect ops = true) (hT : coverB md ops k = true) : ∀ (l : List Oper) (i : Nat) (listed : Array Bool) (a : Act), i + l.length = k → (∀ j, (l ++ t)[j]? = ops[i + j]?) → Shut md ops listed →
    headFrom md ops t.length l.length i listed = true → wpQuietIn F n P ops C (fun a => ∀ w, C w → wpListIn F n P ops Q t a w) l a → wpAnyT F n P md ops C Q k (l.length + t.length) listed a
  | [], i, _, _, hk, hl, _, hB, h => by
    simp only [List.length_nil, Nat.zero_add]
    exact anyT_of_chain (i := i) (by simp at hk; omega) (by simpa using hl) hB h
  | o :: l, i, listed, a, hk, hl, hS, hB, h => by
    have h0 : ops[i]? = some o := by simpa using (hl 0).symm
    simp only [List.length_cons, headFrom, Bool.and_eq_true] at hB
    obtain ⟨⟨hr, hf⟩, hB'⟩ := hB
    have hr' : i ∈ Region.ready md ops listed := by simpa using hr
    have hst : qOpIn F n P ops C i (wpQuietIn F n P ops C (fun a => ∀ w, C w → wpListIn F n P ops Q t a w) l) a := by unfold qOpIn; simp only [h0]; exact h
    obtain ⟨v, hy, hK⟩ := yieldsQuiet_of_qOpIn h0 hst
    have e : (o :: l).length + t.length = (l.length + t.length) + 1 := by simp; omega
    rw [e]
    exact wpAnyT_first h0 (by simp at hk; omega) hT (Region.noSelect_spec hs) _ listed a hS (Region.free_spec h0 hf) hr' hy
      (wpAnyT_lex hs hT l (i + 1) _ _ (by simp at hk; omega) (fun j => by have := hl (j + 1); simpa [Nat.add_assoc, Nat.add_comm 1 j] using this) (hS.set hr') hB' hK)
/-- The test of a region: what stands ahead can be taken in the order of the text, and what is last waits for all of it. -/
def tailB (ops : Array Oper) (k : Nat) : Bool := Region.noSelect ops && coverB .any ops k && headFrom .any ops (ops.size - k) k 0 (Array.replicate ops.size false)
theorem region_tail {id : Nat} {a : Act} {w : World} {l t : List Oper} (hro : F.round = none) (hm : P.follows .mixedOrders = true) (hB : tailB (l ++ t).toArray l.length = true) (hC : C w.drew)
    (h : wpQuietIn F n P (l ++ t).toArray C (fun a => ∀ w, C w → wpListIn F n P (l ++ t).toArray Q t a w) l a) : (Code.region id (l ++ t).toArray true).wpIn F n P Q a w := by
  simp only [tailB, Bool.and_eq_true] at hB
  refine wpIn_region_any hm (wpAnyIn_of_T (C := C) (k := l.length) hro _ _ _ _ hC ?_)
  have e : (l ++ t).toArray.size - l.length = t.length := by simp
  rw [e] at hB
  have := wpAnyT_lex (F := F) (n := n) (P := P) (C := C) (Q := Q) (t := t) hB.1.1 hB.1.2 l 0 (Array.replicate (l ++ t).toArray.size false) a (by simp) (by simp) (fun j o _ hj hlt => by
    simp at hlt
    simp [hlt] at hj) hB.2 h
  simpa using this
theorem region_tail_at (k : Nat) {id : Nat} {a : Act} {w : World} {L : List Oper} (hk : decide (k ≤ L.length) = true) (hro : F.round = none) (hm : P.follows .mixedOrders = true) (hB : tailB L.toArray k = true) (hC : C w.drew)
    (h : wpQuietIn F n P L.toArray C (fun a => ∀ w, C w → wpListIn F n P L.toArray Q (L.drop k) a w) (L.take k) a) : (Code.region id L.toArray true).wpIn F n P Q a w := by
  have e : L.take k ++ L.drop k = L := List.take_append_drop k L
  have el : (L.take k).length = k := by rw [List.length_take]; exact Nat.min_eq_left (of_decide_eq_true hk)
  have := region_tail (F := F) (n := n) (P := P) (C := C) (Q := Q) (id := id) (a := a) (w := w) (l := L.take k) (t := L.drop k) hro hm (by rw [e, el]; exact hB) hC (by rw [e]; exact h)
  rw [e] at this
  exact this
end
end Go.Proofs.Ytdknofbnhjdfjaa
