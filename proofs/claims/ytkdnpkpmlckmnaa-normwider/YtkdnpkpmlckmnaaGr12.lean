/- Readings whose every list is within the reach: slices of integers, and slices of structs that hold slices, opened with that. Fronts of models in plain numbers; what is known of each op of a well-formed model; ops that came in. Sums of ops that reduce, in plain numbers: their terms, their bias, and what is known of such an op of a well-formed model. What the small functions of package terms return: how many terms, channels and positions an op has; its bias; a weight; the channels that are read; a place. The iterator of Taps: called with whatever round, it gives each tap in its order, till it is told to stop. The iterator of Positions: called with whatever round, it gives each position's row and column in their order, till it is told to stop. What corner of package window, and the document's Has, return: each for every argument. Taps and Positions hand back iterators: what they give, and for how long. Rows of ints: what is read of them, what a call owns, what stays behind a call; append over them. What the law's own pairs and spots collect of an iterator: the first so many of what it gives, in a new slice. What places of package terms returns: the places of a channel's terms at a position. A region that draws its order within a round of a loop over an iterator: it goes as outside of one; 'append' of one int as a step of such a region. -/
import Derived.Test.YtkdnpkpmlckmnaaGr01
import Derived.Test.YtkdnpkpmlckmnaaGr02
import Derived.Test.YtkdnpkpmlckmnaaGr11
import Derived.SizedLaws
import Derived.BigQuiet
import Derived.RangeFuncNested
import Derived.RangeFuncBound
import Derived.RangeFuncCalls
import Derived.RangeFuncLeaves
import Derived.Shelf.Abstract
import Derived.Shelf.RegionOpen
import Derived.WalkKit
import Derived.OwnWalkIn
import Derived.TacticsInMore
import Derived.LoopNIn
import Derived.LoopIn
import Derived.Laws.AppendOwnNone
import Derived.RangeFuncBox
import Derived.Maps.AppendAt
/- Readings whose every list is within the reach: slices of integers, and slices of structs that hold slices, opened with that. -/
namespace Go.Proofs.Ytkdnpkpmlckmnaa
open Go.ChangeShapes Go.WideShapes Go.ChangeAt Go.RowKit Go.Deep
/-- Each list of a reading is within the reach. -/
def Sz {H : Type} (t : TypeId) (d : DataW H) : Prop := ∀ n ∈ d.weights Try.prog t, n ≤ reachBytes
theorem weightsEach_mem {H : Type} : ∀ {ts : List TypeId} {ds : List (DataW H)} {n : Nat}, n ∈ DataW.weightsEach Try.prog ts ds → ∃ (j : Nat) (t : TypeId) (d : DataW H), ts[j]? = some t ∧ ds[j]? = some d ∧ n ∈ d.weights Try.prog t
  | t :: ts, d :: ds, n, h => by
    simp only [DataW.weightsEach, List.mem_append] at h
    rcases h with h | h
    · exact ⟨0, t, d, rfl, rfl, h⟩
    · obtain ⟨j, t', d', h1, h2, h3⟩ := weightsEach_mem h
      exact ⟨j + 1, t', d', h1, h2, h3⟩
  | [], _, _, h => by simp [DataW.weightsEach] at h
  | _ :: _, [], _, h => by simp [DataW.weightsEach] at h
theorem weightsAll_mem {H : Type} {e : TypeId} : ∀ {ds : List (DataW H)} {d : DataW H}, d ∈ ds → ∀ n ∈ d.weights Try.prog e, n ∈ DataW.weightsAll Try.prog e ds
  | x :: r, d, hd, n, hn => by
    simp only [DataW.weightsAll, List.mem_append]
    rcases List.mem_cons.1 hd with rfl | hd
    · exact .inl hn
    · exact .inr (weightsAll_mem hd n hn)
/-- An argument's. -/
theorem sz_arg {H : Type} {ts : List TypeId} {ds : List (DataW H)} (h : (DataW.weightsEach Try.prog ts ds).all (· ≤ reachBytes) = true) {j : Nat} {t : TypeId} {d : DataW H} (ht : ts[j]? = some t) (hd : ds[j]? = some d) : Sz t d := fun n hn => by
  simpa using List.all_eq_true.1 h n (DataW.weights_mem_each ht hd n hn)
theorem Sz.slice {H : Type} {t e : TypeId} {el sp : List (DataW H)} (h : Sz t (.slice el sp)) (hu : Try.prog.underlying t = some (.slice e)) : (el.length + sp.length) * Try.prog.bytesOf e ≤ reachBytes ∧ ∀ x ∈ el, Sz e x := by
  refine ⟨h _ (by simp [DataW.weights, hu]), fun x hx n hn => h n ?_⟩
  simp only [DataW.weights, hu]
  exact List.mem_cons_of_mem _ (List.mem_append_left _ (weightsAll_mem hx n hn))
theorem Sz.part {H : Type} {t : TypeId} {fs : Array Field} {ps : List (DataW H)} (h : Sz t (.agg ps)) (hu : Try.prog.underlying t = some (.struct fs)) {j : Nat} {f : Field} {d : DataW H} (hf : fs[j]? = some f) (hd : ps[j]? = some d) : Sz f.type d := fun n hn => by
  refine h n ?_
  simp only [DataW.weights, hu]
  refine DataW.weights_mem_each (j := j) ?_ hd n hn
  rw [List.getElem?_map, Array.getElem?_toList, hf]
  rfl
/-- A slice of integers, and its reach. -/
theorem openIz {H : Type} {enc : TypeId × Value → H} {W : World} {fuel : Nat} {a : Option Addr} {len cap : Nat} {d : DataW H} {p : List MemPlace} {t e : TypeId} {k : IntKind} {b : Nat}
    (ht : Try.prog.underlying t = some (.slice e)) (he : Try.prog.underlying e = some (.int k)) (hc : Try.prog.cellsOf e = 1) (hb : Try.prog.bytesOf e = b)
    (hf : DataW.trod enc Try.prog W 0 (fun _ => true) true fuel t (Value.slice a len cap).cells.toList = some (d, p)) (hs : Sz t d) : ∃ zs, IRow k W a len cap zs ∧ len * b ≤ 140737488351232 := by
  obtain ⟨zs, h1, h2⟩ := openI ht he hc hf
  refine ⟨zs, h1, ?_⟩
  rcases h2 with ⟨_, h0⟩ | ⟨el, sp, rfl, hl⟩
  · rw [h0]; omega
  · have := (hs.slice ht).1
    rw [hb, hl] at this
    simp only [reachBytes] at this
    have e2 : len * b ≤ (len + sp.length) * b := Nat.mul_le_mul_right _ (by omega)
    omega
/-- A field that is a slice, whatever its cells are. -/
theorem openF {H : Type} {enc : TypeId × Value → H} {W : World} {fuel : Nat} {cs : List Value} {x : DataW H × List MemPlace} {t e : TypeId} {k : IntKind} {b : Nat}
    (ht : Try.prog.underlying t = some (.slice e)) (he : Try.prog.underlying e = some (.int k)) (hc : Try.prog.cellsOf e = 1) (hb : Try.prog.bytesOf e = b)
    (hf : DataW.trod enc Try.prog W 0 (fun _ => true) true fuel t cs = some x) (hs : Sz t x.1) : ∃ a len cap zs, cs = [.slice a len cap] ∧ IRow k W a len cap zs ∧ len * b ≤ 140737488351232 := by
  rcases open_slice ht hf with ⟨rfl, _⟩ | ⟨a, l, c, m, n, D, Pl, rfl, _⟩
  · obtain ⟨zs, h1, h2⟩ := openIz (a := none) (len := 0) (cap := 0) (d := x.1) (p := x.2) ht he hc hb hf hs
    exact ⟨none, 0, 0, zs, rfl, h1, h2⟩
  · obtain ⟨zs, h1, h2⟩ := openIz (a := some a) (len := l) (cap := c) (d := x.1) (p := x.2) ht he hc hb hf hs
    exact ⟨some a, l, c, zs, rfl, h1, h2⟩
/-- A slice of structs that may hold slices. -/
theorem openOz {H : Type} {enc : TypeId × Value → H} {W : World} {fuel : Nat} {a : Option Addr} {len cap : Nat} {d : DataW H} {p : List MemPlace} {t e : TypeId} {nc b : Nat} (R : List Value → Prop)
    (ht : Try.prog.underlying t = some (.slice e)) (ce : Try.prog.cellsOf e = nc) (hb : Try.prog.bytesOf e = b) (hR : ∀ n cs x, DataW.trod enc Try.prog W 0 (fun _ => true) true n e cs = some x → Sz e x.1 → R cs)
    (hf : DataW.trod enc Try.prog W 0 (fun _ => true) true fuel t (Value.slice a len cap).cells.toList = some (d, p)) (hs : Sz t d) : ORow nc R W a len cap ∧ len * b ≤ 140737488351232 := by
  rcases open_slice ht hf with ⟨hcs, hx⟩ | ⟨x, l, c, m, n, D, Pl, hcs, _, hl, hm, hmm, hx, hcell⟩
  · simp [Value.cells] at hcs
    obtain ⟨rfl, rfl, rfl⟩ := hcs
    exact ⟨⟨Nat.le_refl _, by unfold maxLen; omega, fun _ => rfl, fun x h => by cases h⟩, by omega⟩
  · simp [Value.cells] at hcs
    obtain ⟨rfl, rfl, rfl⟩ := hcs
    simp only [Prod.mk.injEq] at hx
    simp only [if_true] at hmm
    obtain ⟨rfl, -⟩ := hx
    obtain ⟨hz, hz2⟩ := hs.slice ht
    refine ⟨⟨hl, hm, fun h => (by cases h), fun y hy i hi => ?_⟩, ?_⟩
    · obtain rfl := Option.some.inj hy
      obtain ⟨cs, h1, h2⟩ := hcell i (by omega)
      rw [ce] at h1
      obtain ⟨_, hlen, hc⟩ := World.cells?_some h1
      refine ⟨cs, hlen, hR _ _ _ h2 (hz2 _ (List.mem_map.2 ⟨i, by simpa using hi, rfl⟩)), fun j hj => ?_⟩
      have := hc j (by omega)
      rw [Addr.add_add] at this
      exact this
    · rw [hb] at hz
      simp only [List.length_map, List.length_range, reachBytes] at hz
      have e2 : len * b ≤ (len + (m - len)) * b := Nat.mul_le_mul_right _ (by omega)
      omega
/-- A field that is a slice of such structs. -/
theorem openFo {H : Type} {enc : TypeId × Value → H} {W : World} {fuel : Nat} {cs : List Value} {x : DataW H × List MemPlace} {t e : TypeId} {nc b : Nat} (R : List Value → Prop)
    (ht : Try.prog.underlying t = some (.slice e)) (ce : Try.prog.cellsOf e = nc) (hb : Try.prog.bytesOf e = b) (hR : ∀ n cs x, DataW.trod enc Try.prog W 0 (fun _ => true) true n e cs = some x → Sz e x.1 → R cs)
    (hf : DataW.trod enc Try.prog W 0 (fun _ => true) true fuel t cs = some x) (hs : Sz t x.1) : ∃ a len cap, cs = [.slice a len cap] ∧ ORow nc R W a len cap ∧ len * b ≤ 140737488351232 := by
  rcases open_slice ht hf with ⟨rfl, _⟩ | ⟨a, l, c, m, n, D, Pl, rfl, _⟩
  · have := openOz (a := none) (len := 0) (cap := 0) (d := x.1) (p := x.2) R ht ce hb hR hf hs
    exact ⟨none, 0, 0, rfl, this⟩
  · have := openOz (a := some a) (len := l) (cap := c) (d := x.1) (p := x.2) R ht ce hb hR hf hs
    exact ⟨some a, l, c, rfl, this⟩
end Go.Proofs.Ytkdnpkpmlckmnaa

/- Fronts of models in plain numbers; what is known of each op of a well-formed model; ops that came in. -/
namespace Go.Proofs.Ytkdnpkpmlckmnaa
open Go.ChangeShapes Go.WideShapes Go.ChangeAt Go.RowKit
set_option linter.unusedVariables false
theorem stG_step {O : Nat → Nat → Int} {s0 : Int × Int × Int} {n : Nat} {L : List (Int × Int × Int)} {wk : Int} (h : stG O s0 (n + 1) = (0, 0, L, wk)) :
    ∃ L0 wk0, stG O s0 n = (0, 0, L0, wk0) ∧ oT (O n) L0 wk0 = 0 ∧ L = L0 ++ [oM (O n) L0] ∧ wk = wk0 + oW (O n) L0 := by
  obtain ⟨e, t, L0, wk0, h0⟩ : ∃ e t L0 wk0, stG O s0 n = (e, t, L0, wk0) := ⟨_, _, _, _, rfl⟩
  by_cases he : e = 0
  · have ht : t = 0 := stG_at0 h0 he
    subst he ht
    by_cases hx : oT (O n) L0 wk0 = 0
    · rw [stG_ok h0 hx] at h
      simp only [Prod.mk.injEq, true_and] at h
      exact ⟨L0, wk0, h0, hx, h.1.symm, h.2.symm⟩
    · rw [stG_err h0 rfl hx] at h
      simp only [Prod.mk.injEq] at h
      exact absurd h.1 hx
  · have := stG_bad (O := O) (s0 := s0) (i := n) (by rw [h0]; exact he) 1
    rw [h, h0] at this
    simp only [Prod.mk.injEq] at this
    exact absurd this.1.symm he
theorem stG_pre {O : Nat → Nat → Int} {s0 : Int × Int × Int} (hs : vS3 s0 = true) : ∀ (n : Nat) (L : List (Int × Int × Int)) (wk : Int), stG O s0 n = (0, 0, L, wk) → ∀ i, i ≤ n → ∃ wi, stG O s0 i = (0, 0, L.take (i + 1), wi) ∧ 0 ≤ wi ∧ wi ≤ wk
  | 0, L, wk, h, i, hi => by
    obtain rfl : i = 0 := by omega
    obtain ⟨h1, -, h3, -⟩ := stG_inv hs 0 L wk h
    exact ⟨wk, by rw [List.take_of_length_le (by omega)]; exact h, h3, Int.le_refl _⟩
  | n + 1, L, wk, h, i, hi => by
    obtain ⟨h1, -, h3, -⟩ := stG_inv hs (n + 1) L wk h
    by_cases e : i = n + 1
    · subst e
      exact ⟨wk, by rw [List.take_of_length_le (by omega)]; exact h, h3, Int.le_refl _⟩
    · obtain ⟨L0, wk0, h0, hx, hL, hw⟩ := stG_step h
      obtain ⟨i1, i2, i3, i4⟩ := stG_inv hs n L0 wk0 h0
      obtain ⟨wi, g1, g2, g3⟩ := stG_pre hs n L0 wk0 h0 i (by omega)
      obtain ⟨-, t2, -, -⟩ := tk_0 hx i2
      have t2' : 0 ≤ oW (O n) L0 := t2
      refine ⟨wi, ?_, g2, by omega⟩
      rw [g1, hL, List.take_append_of_le_length (by omega)]
theorem stG_fault {O : Nat → Nat → Int} {s0 : Int × Int × Int} : ∀ (n : Nat) (e t : Int) (L : List (Int × Int × Int)) (wk : Int), stG O s0 n = (e, t, L, wk) → e ≠ 0 → L = [] ∧ wk = 0 ∧ ∃ j, j < n ∧ t = (j : Int) + 1 ∧ ∃ L' wk', stG O s0 j = (0, 0, L', wk')
  | 0, e, t, L, wk, h, he => by
    unfold stG at h
    simp only [Prod.mk.injEq] at h
    exact absurd h.1.symm he
  | n + 1, e, t, L, wk, h, he => by
    obtain ⟨e0, t0, L0, wk0, h0⟩ : ∃ e t L0 wk0, stG O s0 n = (e, t, L0, wk0) := ⟨_, _, _, _, rfl⟩
    by_cases hb : e0 = 0
    · have ht : t0 = 0 := stG_at0 h0 hb
      subst hb ht
      by_cases hx : oT (O n) L0 wk0 = 0
      · rw [stG_ok h0 hx] at h
        simp only [Prod.mk.injEq] at h
        exact absurd h.1.symm he
      · rw [stG_err h0 rfl hx] at h
        simp only [Prod.mk.injEq] at h
        exact ⟨h.2.2.1.symm, h.2.2.2.symm, n, by omega, h.2.1.symm, L0, wk0, h0⟩
    · have := stG_bad (O := O) (s0 := s0) (i := n) (by rw [h0]; exact hb) 1
      rw [h, h0] at this
      simp only [Prod.mk.injEq] at this
      obtain ⟨rfl, rfl, rfl, rfl⟩ := this
      obtain ⟨a1, a2, j, a3, a4⟩ := stG_fault n e t L wk h0 he
      exact ⟨a1, a2, j, by omega, a4⟩
theorem ouE_front {h w c lo hi ot : Int} {on j : Nat} (q : ouE h w c lo hi ot on = 0) (hj : j ≤ on) : ouE h w c lo hi (j : Int) j = 0 := by
  obtain ⟨a1, a2, a3, -, -⟩ := ouE_0 q
  unfold ouE
  rw [if_neg (by rw [a1]; decide), if_neg (by rw [a2]; decide), if_neg (by omega), if_neg (by omega)]
theorem gtR_of {O : Nat → Nat → Int} {h w c lo hi ot : Int} {on : Nat} (q : ouE h w c lo hi ot on = 0) : gtR O h w c lo hi ot on = stG O (h, w, c) on := by unfold gtR; rw [q, if_neg (by decide)]
/-- A model that isn't well-formed. -/
theorem gtR_err {O : Nat → Nat → Int} {h w c lo hi ot e t wk : Int} {on : Nat} {L : List (Int × Int × Int)} (q : gtR O h w c lo hi ot on = (e, t, L, wk)) (he : e ≠ 0) :
    L = [] ∧ wk = 0 ∧ (t = 0 ∨ ∃ j : Nat, j < on ∧ on ≤ 64 ∧ t = (j : Int) + 1 ∧ ∃ L' wk', gtR O h w c lo hi (j : Int) j = (0, 0, L', wk')) := by
  by_cases hx : ouE h w c lo hi ot on = 0
  · rw [gtR_of hx] at q
    obtain ⟨a1, a2, j, a3, a4, L', wk', a5⟩ := stG_fault on e t L wk q he
    exact ⟨a1, a2, .inr ⟨j, a3, (ouE_0 hx).2.2.1, a4, L', wk', by rw [gtR_of (ouE_front hx (by omega))]; exact a5⟩⟩
  · unfold gtR at q
    rw [if_pos hx] at q
    simp only [Prod.mk.injEq] at q
    exact ⟨q.2.2.1.symm, q.2.2.2.symm, .inl q.2.1.symm⟩
theorem gtR_st {O : Nat → Nat → Int} {h w c lo hi ot t wk : Int} {on : Nat} {L : List (Int × Int × Int)} (q : gtR O h w c lo hi ot on = (0, t, L, wk)) : ouE h w c lo hi ot on = 0 ∧ t = 0 ∧ stG O (h, w, c) on = (0, 0, L, wk) := by
  by_cases hx : ouE h w c lo hi ot on = 0
  · rw [gtR_of hx] at q
    have ht := stG_at0 q rfl
    subst ht
    exact ⟨hx, rfl, q⟩
  · unfold gtR at q
    rw [if_pos hx] at q
    simp only [Prod.mk.injEq] at q
    exact absurd q.1 hx
/-- A well-formed model, and its fronts. -/
theorem gtR_ok {O : Nat → Nat → Int} {h w c lo hi ot t wk : Int} {on : Nat} {L : List (Int × Int × Int)} (q : gtR O h w c lo hi ot on = (0, t, L, wk)) :
    t = 0 ∧ L.length = on + 1 ∧ on ≤ 64 ∧ 0 ≤ wk ∧ wk ≤ 131072 ∧ ∀ k : Nat, k ≤ on → ∃ wi, gtR O h w c lo hi (k : Int) k = (0, 0, L.take (k + 1), wi) ∧ 0 ≤ wi ∧ wi ≤ wk := by
  obtain ⟨hx, rfl, q2⟩ := gtR_st q
  clear q
  have q := q2
  have hv : vS3 (h, w, c) = true := (ouE_0 hx).1
  obtain ⟨h1, -, h3, h4⟩ := stG_inv hv on L wk q
  refine ⟨rfl, h1, (ouE_0 hx).2.2.1, h3, h4, fun k hk => ?_⟩
  obtain ⟨wi, g1, g2⟩ := stG_pre hv on L wk q k hk
  exact ⟨wi, by rw [gtR_of (ouE_front hx hk)]; exact g1, g2⟩
theorem mkE_parts {k m kh kw sh sw tp lf bt rt h w c : Int} (hx : mkE k m kh kw sh sw tp lf bt rt h w c = 0) : mkW k kh kw sh sw tp lf bt rt h w c = 0 := by
  unfold mkE at hx
  by_cases hM : mkM k m = false
  · rw [if_pos hM] at hx; cases hx
  · rw [if_neg hM] at hx
    by_cases hw : mkW k kh kw sh sw tp lf bt rt h w c ≠ 0
    · rw [if_pos hw] at hx; exact absurd hx hw
    · exact Decidable.not_not.1 hw
/-- What is known of one op's shapes: A's and its own. -/
def OpFit (k kh kw sh sw tp lf bt rt : Int) (A B : Int × Int × Int) : Prop :=
  vS B.1 B.2.1 B.2.2 = true ∧ (2 ≤ k ∧ k ≤ 5 → ouR A.1 A.2.1 A.2.2 kh kw sh sw tp lf bt rt = (B.1, B.2.1, 0) ∧ (k ≠ 2 → B.2.2 = A.2.2)) ∧ (6 ≤ k → B = A)
theorem fit_of {k m kh kw sh sw tp lf bt rt : Int} {A : Int × Int × Int} (hx : mkE k m kh kw sh sw tp lf bt rt A.1 A.2.1 A.2.2 = 0) (hv : vS3 (mk3 k m kh kw sh sw tp lf bt rt A) = true) : OpFit k kh kw sh sw tp lf bt rt A (mk3 k m kh kw sh sw tp lf bt rt A) := by
  refine ⟨hv, fun hk => ?_, fun hk => ?_⟩
  · have hw := mkE_parts hx
    unfold mkW at hw
    rw [if_pos hk] at hw
    obtain ⟨r, q, e, ho⟩ : ∃ r q e, ouR A.1 A.2.1 A.2.2 kh kw sh sw tp lf bt rt = (r, q, e) := ⟨_, _, _, rfl⟩
    rw [ho] at hw
    simp only at hw
    subst hw
    by_cases k2 : k = 2
    · have hm : mk3 k m kh kw sh sw tp lf bt rt A = (r, q, m) := by unfold mk3 mkS; rw [if_neg (by omega), if_pos k2, ho]
      rw [hm]
      exact ⟨ho, fun h => absurd k2 h⟩
    · have hm : mk3 k m kh kw sh sw tp lf bt rt A = (r, q, A.2.2) := by unfold mk3 mkS; rw [if_neg (by omega), if_neg k2, if_pos (by omega), ho]
      rw [hm]
      exact ⟨ho, fun _ => rfl⟩
  · unfold mk3 mkS
    rw [if_neg (by omega), if_neg (by omega), if_neg (by omega)]
theorem ShA_take {L : List (Int × Int × Int)} {i n : Nat} (h : i < n) : ShA (L.take n) (i : Int) = ShA L (i : Int) := by
  unfold ShA
  rw [Int.toNat_natCast]
  simp [List.getD, h]
/-- Each op of a well-formed model. -/
theorem gtR_at {O : Nat → Nat → Int} {h w c lo hi ot t wk : Int} {on : Nat} {L : List (Int × Int × Int)} (q : gtR O h w c lo hi ot on = (0, t, L, wk)) :
    ShA L ((0 : Nat) : Int) = (h, w, c) ∧ ∀ i, i < on → ∃ j : Nat, O i 1 = (j : Int) ∧ j ≤ i ∧ OpFit (O i 0) (O i 4) (O i 5) (O i 6) (O i 7) (O i 8) (O i 9) (O i 10) (O i 11) (ShA L (j : Int)) (ShA L ((i + 1 : Nat) : Int)) := by
  obtain ⟨hx, rfl, q2⟩ := gtR_st q
  clear q
  have q := q2
  have hv : vS3 (h, w, c) = true := (ouE_0 hx).1
  refine ⟨?_, fun i hi => ?_⟩
  · obtain ⟨wi, g1, -⟩ := stG_pre hv on L wk q 0 (by omega)
    unfold stG at g1
    simp only [Prod.mk.injEq, true_and] at g1
    rw [← ShA_take (n := 0 + 1) (by omega), ← g1.1]
    rfl
  · obtain ⟨wi, g1, -⟩ := stG_pre hv on L wk q (i + 1) (by omega)
    obtain ⟨L0, wk0, h0, hx0, hL, -⟩ := stG_step g1
    obtain ⟨w2, g2, -⟩ := stG_pre hv on L wk q i (by omega)
    rw [g2] at h0
    simp only [Prod.mk.injEq, true_and] at h0
    obtain ⟨rfl, rfl⟩ := h0
    obtain ⟨i1, i2, -⟩ := stG_inv hv i _ _ g2
    obtain ⟨t1, -, -, ⟨a0, a1⟩, -, t6⟩ := tk_0 hx0 i2
    obtain ⟨j, hj⟩ := Int.eq_ofNat_of_zero_le a0
    rw [hj] at a1 t1 t6
    refine ⟨j, hj, by omega, ?_⟩
    have e1 : ShA (L.take (i + 1)) (j : Int) = ShA L (j : Int) := ShA_take (by omega)
    have e2 : ShA L ((i + 1 : Nat) : Int) = mk3 (O i 0) (O i 3) (O i 4) (O i 5) (O i 6) (O i 7) (O i 8) (O i 9) (O i 10) (O i 11) (ShA L (j : Int)) := by
      rw [← ShA_take (n := i + 1 + 1) (by omega), hL]
      unfold ShA at e1 ⊢
      rw [Int.toNat_natCast]
      simp only [List.getD]
      rw [List.getElem?_append_right (by omega), i1, Nat.sub_self]
      unfold oM ShA
      rw [hj, Int.toNat_natCast]
      rw [Int.toNat_natCast] at e1
      simp only [List.getElem?_cons_zero, Option.getD_some]
      rw [e1]
      rfl
    rw [e1] at t1 t6
    rw [e2]
    exact fit_of t6 t1
/-! ### Ops that came in -/
def OpIn (w : World) (cs : List Value) : Prop :=
  ∃ (b0 : Int) (b1 : Int) (b2 : Int) (b3 : Int) (b4 : Int) (b5 : Int) (b6 : Int) (b7 : Int) (b8 : Int) (b9 : Int) (b10 : Int) (b11 : Int) (b12 : Option Addr) (l12 c12 : Nat) (z12 : List Int) (b13 : Option Addr) (l13 c13 : Nat) (z13 : List Int) (b14 : Int) (b15 : Int) (b16 : Int) (b17 : Int) (b18 : Int) (b19 : Int) (b20 : Int) (b21 : Int), cs = [.int .i64 b0, .int .i64 b1, .int .i64 b2, .int .i64 b3, .int .i64 b4, .int .i64 b5, .int .i64 b6, .int .i64 b7, .int .i64 b8, .int .i64 b9, .int .i64 b10, .int .i64 b11, .slice b12 l12 c12, .slice b13 l13 c13, .int .i64 b14, .int .i64 b15, .int .i64 b16, .int .i64 b17, .int .i64 b18, .int .i64 b19, .int .i64 b20, .int .i64 b21] ∧
    (Lit.int .i64 b0).wf = true ∧ (Lit.int .i64 b1).wf = true ∧ (Lit.int .i64 b2).wf = true ∧ (Lit.int .i64 b3).wf = true ∧ (Lit.int .i64 b4).wf = true ∧ (Lit.int .i64 b5).wf = true ∧ (Lit.int .i64 b6).wf = true ∧ (Lit.int .i64 b7).wf = true ∧ (Lit.int .i64 b8).wf = true ∧ (Lit.int .i64 b9).wf = true ∧ (Lit.int .i64 b10).wf = true ∧ (Lit.int .i64 b11).wf = true ∧
    IRow .i16 w b12 l12 c12 z12 ∧ l12 * 2 ≤ 140737488351232 ∧ IRow .i32 w b13 l13 c13 z13 ∧ l13 * 4 ≤ 140737488351232 ∧
    (Lit.int .i64 b14).wf = true ∧ (Lit.int .i64 b15).wf = true ∧ (Lit.int .i64 b16).wf = true ∧ (Lit.int .i64 b17).wf = true ∧ (Lit.int .i64 b18).wf = true ∧ (Lit.int .i64 b19).wf = true ∧ (Lit.int .i64 b20).wf = true ∧ (Lit.int .i64 b21).wf = true
/-- One op in memory, with its lists. -/
def LOp (w : World) (x : Addr) (o : Nat → Int) (z b : List Int) : Prop :=
  ∃ (wa : Option Addr) (lw cw : Nat) (ba : Option Addr) (lb cb : Nat), o 12 = (lw : Int) ∧ o 13 = (lb : Int) ∧ (∀ j v, (opl o wa lw cw ba lb cb)[j]? = some v → w.cell? (x.add j) = some v) ∧ IRow .i16 w wa lw cw z ∧ IRow .i32 w ba lb cb b ∧ lw * 2 ≤ 140737488351232 ∧ lb * 4 ≤ 140737488351232
/-- Ops in memory, with their lists. -/
def LRow (w : World) (oa : Option Addr) (on oc : Nat) (O : Nat → Nat → Int) (Z B : Nat → List Int) : Prop :=
  on ≤ oc ∧ oc ≤ maxLen ∧ (oa = none → oc = 0) ∧ ∀ x, oa = some x → ∀ i, i < on → LOp w (x.add (i * 22)) (O i) (Z i) (B i)
theorem LRow.m {w : World} {oa : Option Addr} {on oc : Nat} {O : Nat → Nat → Int} {Z B : Nat → List Int} (h : LRow w oa on oc O Z B) : MRow w oa on oc O :=
  ⟨h.1, h.2.1, h.2.2.1, fun x hx i hi => by
    obtain ⟨wa, lw, cw, ba, lb, cb, h1, h2, h3, -⟩ := h.2.2.2 x hx i hi
    exact ⟨wa, lw, cw, ba, lb, cb, h1, h2, fun j v hj => by rw [← Addr.add_add]; exact h3 j v hj⟩⟩
theorem LOp.below {w w' : World} {x : Addr} {o : Nat → Int} {z b : List Int} (h : LOp w x o z b) (g : Below w.heap.size w w') : LOp w' x o z b := by
  obtain ⟨wa, lw, cw, ba, lb, cb, h1, h2, h3, h4, h5, h6⟩ := h
  exact ⟨wa, lw, cw, ba, lb, cb, h1, h2, fun j v hj => (g.cell (World.block_lt_of_cell? w _ (h3 j v hj))).trans (h3 j v hj), h4.below g, h5.below g, h6⟩
theorem LRow.below {w w' : World} {oa : Option Addr} {on oc : Nat} {O : Nat → Nat → Int} {Z B : Nat → List Int} (h : LRow w oa on oc O Z B) (g : Below w.heap.size w w') : LRow w' oa on oc O Z B :=
  ⟨h.1, h.2.1, h.2.2.1, fun x hx i hi => (h.2.2.2 x hx i hi).below g⟩
def oL (b0 b1 b2 b3 b4 b5 b6 b7 b8 b9 b10 b11 b12 b13 b14 b15 b16 b17 b18 b19 b20 b21 : Int) (j : Nat) : Int := [b0, b1, b2, b3, b4, b5, b6, b7, b8, b9, b10, b11, b12, b13, b14, b15, b16, b17, b18, b19, b20, b21].getD j 0
theorem lop_of {w : World} {x : Addr} {cs : List Value} (h : OpIn w cs) (hc : ∀ j, j < 22 → w.cell? (x.add j) = cs[j]?) : ∃ o z b, LOp w x o z b := by
  obtain ⟨b0, b1, b2, b3, b4, b5, b6, b7, b8, b9, b10, b11, b12, l12, c12, z12, b13, l13, c13, z13, b14, b15, b16, b17, b18, b19, b20, b21, rfl, -, -, -, -, -, -, -, -, -, -, -, -, h1, h2, h3, h4, -⟩ := h
  refine ⟨oL b0 b1 b2 b3 b4 b5 b6 b7 b8 b9 b10 b11 l12 l13 b14 b15 b16 b17 b18 b19 b20 b21, z12, z13, b12, l12, c12, b13, l13, c13, rfl, rfl, fun j v hj => ?_, h1, h3, h2, h4⟩
  have hj' : j < 22 := (List.getElem?_eq_some_iff.1 hj).1
  rw [hc j hj', ← hj]
  rfl
theorem lrow_of {w : World} {oa : Option Addr} {on oc : Nat} (h : ORow 22 (OpIn w) w oa on oc) : ∃ O Z B, LRow w oa on oc O Z B := by
  obtain ⟨h1, h2, h3, h4⟩ := h
  cases oa with
  | none => exact ⟨fun _ _ => 0, fun _ => [], fun _ => [], h1, h2, h3, fun x hx => by cases hx⟩
  | some x =>
    have q : ∀ i, ∃ y : (Nat → Int) × List Int × List Int, i < on → LOp w (x.add (i * 22)) y.1 y.2.1 y.2.2 := by
      intro i
      by_cases hi : i < on
      · obtain ⟨cs, -, g1, g2⟩ := h4 x rfl i hi
        obtain ⟨o, z, b, g⟩ := lop_of (x := x.add (i * 22)) g1 (fun j hj => by rw [Addr.add_add]; exact g2 j hj)
        exact ⟨(o, z, b), fun _ => g⟩
      · exact ⟨(fun _ => 0, [], []), fun h => absurd h hi⟩
    obtain ⟨f, hf⟩ := Classical.skolem.1 q
    exact ⟨fun i => (f i).1, fun i => (f i).2.1, fun i => (f i).2.2, h1, h2, h3, fun y hy i hi => by cases hy; exact hf i hi⟩
end Go.Proofs.Ytkdnpkpmlckmnaa

/- Sums of ops that reduce, in plain numbers: their terms, their bias, and what is known of such an op of a well-formed model. -/
namespace Go.Proofs.Ytkdnpkpmlckmnaa
open Go.ChangeShapes Go.WideShapes Go.ChangeAt Go.RowKit
set_option linter.unusedVariables false
/-- An op that reduces: its kind, its window, the shape that it reads, the one that it makes, how long its lists are. -/
def Sit (k kh kw sh sw tp lf bt rt h w c H V C : Int) (lw lb : Nat) : Prop :=
  (1 ≤ k ∧ k ≤ 4) ∧ vS h w c = true ∧ vS H V C = true ∧ (2 ≤ k → ouR h w c kh kw sh sw tp lf bt rt = (H, V, 0)) ∧ (k = 1 → H = 1 ∧ V = 1) ∧ (2 ≤ k → (1 ≤ kh ∧ kh ≤ 32) ∧ (1 ≤ kw ∧ kw ≤ 32)) ∧
    (k ≤ 3 → (lw : Int) = C * stR k kh kw h w c ∧ (lb : Int) = C) ∧ (3 ≤ k → C = c) ∧ (1 ≤ stR k kh kw h w c ∧ stR k kh kw h w c ≤ 512)
theorem op_sit {k a b m kh kw sh sw tp lf bt rt : Int} {lw lb : Nat} {sm ss um us z p lo hi wk : Int} {L : List (Int × Int × Int)} (hx : tkE k a b m kh kw sh sw tp lf bt rt lw lb sm ss um us z p lo hi L wk = 0) (hk : 1 ≤ k ∧ k ≤ 4) (hv : ∀ s ∈ L, vS3 s = true)
    {h w c H V C : Int} (hA : ShA L a = (h, w, c)) (hB : mk3 k m kh kw sh sw tp lf bt rt (h, w, c) = (H, V, C)) : Sit k kh kw sh sw tp lf bt rt h w c H V C lw lb := by
  obtain ⟨t1, -, -, ⟨a0, a1⟩, -, t6⟩ := tk_0 hx hv
  have hg : vS h w c = true := by
    obtain ⟨i, rfl⟩ := Int.eq_ofNat_of_zero_le a0
    have := hv _ (ShA_mem (show i < L.length by omega))
    rw [hA] at this
    exact this
  have h1 : opE k a b m kh kw sh sw tp lf bt rt lw lb sm ss um us z p lo hi L = 0 := by
    unfold tkE at hx
    by_cases q : opE k a b m kh kw sh sw tp lf bt rt lw lb sm ss um us z p lo hi L ≠ 0
    · rw [if_pos q] at hx; exact hx
    · exact Decidable.not_not.1 q
  rw [hA] at t1 t6
  rw [hB] at t1
  have fit := fit_of (A := (h, w, c)) t6 (by rw [hB]; exact t1)
  rw [hB] at fit
  obtain ⟨f1, f2, -⟩ := fit
  have hw : 2 ≤ k ∧ k ≤ 5 → (1 ≤ kh ∧ kh ≤ 32) ∧ (1 ≤ kw ∧ kw ≤ 32) := mkE_win t6
  have hst := stR_bd (k := k) (kh := kh) (kw := kw) (by omega) hg hw
  unfold opE at h1
  rw [hA] at h1
  rw [hB] at h1
  by_cases q1 : fmE k a b L.length (ozB k b m kh kw sh sw tp lf bt rt lw lb sm ss um us z p) ≠ 0
  · rw [if_pos q1] at h1; exact absurd h1 q1
  rw [if_neg q1] at h1
  simp only at h1
  rw [t6, if_neg (by decide), if_neg (by omega)] at h1
  by_cases q2 : rdB k = true ∧ 512 < st3 k kh kw (h, w, c)
  · rw [if_pos q2] at h1; cases h1
  rw [if_neg q2] at h1
  have h512 : stR k kh kw h w c ≤ 512 := by
    by_cases q : stR k kh kw h w c ≤ 512
    · exact q
    · exact absurd ⟨decide_eq_true (by omega), by show 512 < stR k kh kw h w c; omega⟩ q2
  unfold nuE at h1
  have hle : leB k C (st3 k kh kw (h, w, c)) lw lb = true := by
    cases q : leB k C (st3 k kh kw (h, w, c)) lw lb with
    | true => rfl
    | false => rw [q, if_pos rfl] at h1; cases h1
  have hle' := of_decide_eq_true hle
  refine ⟨hk, hg, f1, fun q => (f2 (by omega)).1, fun q => ?_, fun q => hw (by omega), hle', fun q => (f2 (by omega)).2 (by omega), hst.1, h512⟩
  subst q
  have : mk3 1 m kh kw sh sw tp lf bt rt (h, w, c) = (1, 1, m) := by unfold mk3 mkS; rw [if_pos rfl]
  rw [this] at hB
  simp only [Prod.mk.injEq] at hB
  exact ⟨hB.1.symm, hB.2.1.symm⟩
/-- An op that reduces, of a well-formed model. -/
theorem sit_of {O : Nat → Nat → Int} {h w c lo hi ot t wk : Int} {on : Nat} {L : List (Int × Int × Int)} (q : gtR O h w c lo hi ot on = (0, t, L, wk)) {i : Nat} (hi0 : i < on) (hk : 1 ≤ O i 0 ∧ O i 0 ≤ 4) :
    ∃ j : Nat, O i 1 = (j : Int) ∧ j ≤ i ∧ ∀ x y z H V C, ShA L (j : Int) = (x, y, z) → ShA L ((i + 1 : Nat) : Int) = (H, V, C) → Sit (O i 0) (O i 4) (O i 5) (O i 6) (O i 7) (O i 8) (O i 9) (O i 10) (O i 11) x y z H V C (O i 12).toNat (O i 13).toNat := by
  obtain ⟨hx, rfl, q2⟩ := gtR_st q
  clear q
  have q := q2
  have hv : vS3 (h, w, c) = true := (ouE_0 hx).1
  obtain ⟨wi, g1, -⟩ := stG_pre hv on L wk q (i + 1) (by omega)
  obtain ⟨L0, wk0, h0, hx0, hL, -⟩ := stG_step g1
  obtain ⟨w2, g2, -⟩ := stG_pre hv on L wk q i (by omega)
  rw [g2] at h0
  simp only [Prod.mk.injEq, true_and] at h0
  obtain ⟨rfl, rfl⟩ := h0
  obtain ⟨i1, i2, -⟩ := stG_inv hv i _ _ g2
  obtain ⟨t1, -, -, ⟨a0, a1⟩, -, t6⟩ := tk_0 hx0 i2
  obtain ⟨j, hj⟩ := Int.eq_ofNat_of_zero_le a0
  rw [hj] at a1
  have e1 : ShA (L.take (i + 1)) (j : Int) = ShA L (j : Int) := ShA_take (by omega)
  have e2 : ShA L ((i + 1 : Nat) : Int) = mk3 (O i 0) (O i 3) (O i 4) (O i 5) (O i 6) (O i 7) (O i 8) (O i 9) (O i 10) (O i 11) (ShA L (j : Int)) := by
    rw [← ShA_take (n := i + 1 + 1) (by omega), hL]
    unfold ShA at e1 ⊢
    rw [Int.toNat_natCast]
    simp only [List.getD]
    rw [List.getElem?_append_right (by omega), i1, Nat.sub_self]
    unfold oM ShA
    rw [hj, Int.toNat_natCast]
    rw [Int.toNat_natCast] at e1
    simp only [List.getElem?_cons_zero, Option.getD_some]
    rw [e1]
    rfl
  refine ⟨j, hj, by omega, fun x y z H V C hA hB => ?_⟩
  exact op_sit hx0 hk i2 (by rw [hj, e1]; exact hA) (by rw [← hB, e2, hA])
/-! ### The terms -/
/-- The place of channel c where a tap covers p. -/
def cov (C p c : Int) : Int := if p = -1 then -1 else p * C + c
/-- What tap q covers, the corner being at t, u. -/
def tpc (h w kw t u q : Int) : Int := plc h w (t + q / kw) (u + q % kw)
def plA (k C ch h w kw t u i : Int) : Int := if k = 1 then i else if k = 2 then cov C (tpc h w kw t u (i / C)) (i % C) else cov C (tpc h w kw t u i) (ch - 1)
def wgA (k ch st : Int) (z : List Int) (i : Int) : Int := if k = 4 then 1 else z.getD ((ch - 1) * st + i).toNat 0
def biA (k ch : Int) (b : List Int) : Int := if k = 4 then 0 else b.getD (ch - 1).toNat 0
def tmL (k C ch h w kw t u st : Int) (z : List Int) (n : Nat) : List (Int × Int) := (List.range n).map fun (i : Nat) => (wgA k ch st z i, plA k C ch h w kw t u i)
theorem tmL_len (k C ch h w kw t u st : Int) (z : List Int) (n : Nat) : (tmL k C ch h w kw t u st z n).length = n := by simp [tmL]
theorem tmL_succ (k C ch h w kw t u st : Int) (z : List Int) (n : Nat) : tmL k C ch h w kw t u st z (n + 1) = tmL k C ch h w kw t u st z n ++ [(wgA k ch st z n, plA k C ch h w kw t u n)] := by simp [tmL, List.range_succ]
/-- The terms of a channel at a position. -/
def siL (k kh kw sh sw tp lf bt rt h w c ch at' : Int) (z : List Int) : List (Int × Int) :=
  tmL k c ch h w kw (coR h w c kh kw sh sw tp lf bt rt at').1 (coR h w c kh kw sh sw tp lf bt rt at').2.1 (stR k kh kw h w c) z (stR k kh kw h w c).toNat
/-- The error of an op that is asked. -/
def fiE (O : Nat → Nat → Int) (h w c lo hi ot : Int) (on : Nat) (op : Int) : Int :=
  if (gtR O h w c lo hi ot on).1 ≠ 0 then (gtR O h w c lo hi ot on).1 else if ¬ (1 ≤ op ∧ op ≤ (on : Int)) then 3 else if rdB (O (op - 1).toNat 0) = false then 81 else 0
theorem fiE_err {O : Nat → Nat → Int} {h w c lo hi ot op e : Int} {on : Nat} (g : (gtR O h w c lo hi ot on).1 = e) (he : e ≠ 0) : fiE O h w c lo hi ot on op = e := by unfold fiE; rw [g, if_pos he]
theorem fiE_3 {O : Nat → Nat → Int} {h w c lo hi ot op : Int} {on : Nat} (g : (gtR O h w c lo hi ot on).1 = 0) (ho : ¬ (1 ≤ op ∧ op ≤ (on : Int))) : fiE O h w c lo hi ot on op = 3 := by unfold fiE; rw [g, if_neg (by decide), if_pos ho]
theorem fiE_81 {O : Nat → Nat → Int} {h w c lo hi ot : Int} {on i : Nat} (g : (gtR O h w c lo hi ot on).1 = 0) (ho : i < on) (hk : rdB (O i 0) = false) : fiE O h w c lo hi ot on ((i : Int) + 1) = 81 := by
  unfold fiE; rw [g, if_neg (by decide), if_neg (by omega), show ((i : Int) + 1 - 1).toNat = i by omega, hk, if_pos rfl]
theorem fiE_0 {O : Nat → Nat → Int} {h w c lo hi ot : Int} {on i : Nat} (g : (gtR O h w c lo hi ot on).1 = 0) (ho : i < on) (hk : rdB (O i 0) = true) : fiE O h w c lo hi ot on ((i : Int) + 1) = 0 := by
  unfold fiE; rw [g, if_neg (by decide), if_neg (by omega), show ((i : Int) + 1 - 1).toNat = i by omega, hk, if_neg (by decide)]
end Go.Proofs.Ytkdnpkpmlckmnaa

/- What the small functions of package terms return: how many terms, channels and positions an op has; its bias; a weight; the channels that are read; a place. -/
namespace Go.Proofs.Ytkdnpkpmlckmnaa
open Go.ChangeShapes Go.WideShapes Go.ChangeAt Go.RowKit
set_option linter.unusedVariables false
theorem Sit.win {k kh kw sh sw tp lf bt rt h w c H V C : Int} {lw lb : Nat} (s : Sit k kh kw sh sw tp lf bt rt h w c H V C lw lb) (q : k ≠ 1) : (1 ≤ kh ∧ kh ≤ 32) ∧ (1 ≤ kw ∧ kw ≤ 32) := s.2.2.2.2.2.1 (by have := s.1; omega)
set_option maxHeartbeats 1000000 in
theorem tlen_1 (a b m kh kw sh sw tp lf bt rt : Int) (wa : Option Addr) (lw wc : Nat) (ba : Option Addr) (lb bc : Nat) (sm ss um us z p lo hi h w c H V C : Int) (r : Nat) (W : World) (hr : W.heap[r]? = some (.cells #[.int .i64 1, .int .i64 a, .int .i64 b, .int .i64 m, .int .i64 kh, .int .i64 kw, .int .i64 sh, .int .i64 sw, .int .i64 tp, .int .i64 lf, .int .i64 bt, .int .i64 rt, .slice wa lw wc, .slice ba lb bc, .int .i64 sm, .int .i64 ss, .int .i64 um, .int .i64 us, .int .i64 z, .int .i64 p, .int .i64 lo, .int .i64 hi, .int .i64 h, .int .i64 w, .int .i64 c, .int .i64 H, .int .i64 V, .int .i64 C] 87 (0, 0))) (g : vS h w c = true) (hw : (1 : Int) ≠ 1 → (1 ≤ kh ∧ kh ≤ 32) ∧ (1 ≤ kw ∧ kw ≤ 32)) :
    Calls Try.prog 61 #[.pointer (some ⟨r, 0, none⟩)] W fun e w' => e = .returned (.int .i64 (stR 1 kh kw h w c)) ∧ ∃ n, w' = W.drewN n := by
  have p3 : (1 ≤ h * w ∧ h * w ≤ 1048576) ∧ (1 ≤ h * w * c ∧ h * w * c ≤ 16384) := vS_bd g
  have c1 := (vS_yes g).2.2.1
  have hp : (1 : Int) ≠ 1 → (1 ≤ kh * kw ∧ kh * kw ≤ 1024) ∧ (1 ≤ kh * kw * c ∧ kh * kw * c ≤ 1048576) := fun q => by
    obtain ⟨hw1, hw2⟩ := hw q
    obtain ⟨p1, p2⟩ := mul_bd hw1.1 hw1.2 hw2.1 hw2.2
    obtain ⟨q1, q2⟩ := mul_bd p1 p2 c1.1 c1.2
    exact ⟨⟨p1, by omega⟩, q1, by omega⟩
  rw [show stR 1 kh kw h w c = (if (1 : Int) = 1 then h * w * c else if (1 : Int) = 2 then kh * kw * c else kh * kw) from rfl]
  simp at hp ⊢
  obtain ⟨p', ep⟩ : ∃ p', h * w = p' := ⟨_, rfl⟩
  obtain ⟨q', eq⟩ : ∃ q', kh * kw = q' := ⟨_, rfl⟩
  rw [ep] at p3
  try rw [eq] at hp
  try rw [ep]
  try rw [eq]
  obtain ⟨y1, y2, y3⟩ := cells_at hr
  clear g hw c1 hr
  go_enter Try.func61, Try.ntmps61
  go_wp2
  go_quiet (fail)
  go_wp2
  go_ret
  exact ⟨rfl, _, rfl⟩
set_option maxHeartbeats 1000000 in
theorem tlen_2 (a b m kh kw sh sw tp lf bt rt : Int) (wa : Option Addr) (lw wc : Nat) (ba : Option Addr) (lb bc : Nat) (sm ss um us z p lo hi h w c H V C : Int) (r : Nat) (W : World) (hr : W.heap[r]? = some (.cells #[.int .i64 2, .int .i64 a, .int .i64 b, .int .i64 m, .int .i64 kh, .int .i64 kw, .int .i64 sh, .int .i64 sw, .int .i64 tp, .int .i64 lf, .int .i64 bt, .int .i64 rt, .slice wa lw wc, .slice ba lb bc, .int .i64 sm, .int .i64 ss, .int .i64 um, .int .i64 us, .int .i64 z, .int .i64 p, .int .i64 lo, .int .i64 hi, .int .i64 h, .int .i64 w, .int .i64 c, .int .i64 H, .int .i64 V, .int .i64 C] 87 (0, 0))) (g : vS h w c = true) (hw : (2 : Int) ≠ 1 → (1 ≤ kh ∧ kh ≤ 32) ∧ (1 ≤ kw ∧ kw ≤ 32)) :
    Calls Try.prog 61 #[.pointer (some ⟨r, 0, none⟩)] W fun e w' => e = .returned (.int .i64 (stR 2 kh kw h w c)) ∧ ∃ n, w' = W.drewN n := by
  have p3 : (1 ≤ h * w ∧ h * w ≤ 1048576) ∧ (1 ≤ h * w * c ∧ h * w * c ≤ 16384) := vS_bd g
  have c1 := (vS_yes g).2.2.1
  have hp : (2 : Int) ≠ 1 → (1 ≤ kh * kw ∧ kh * kw ≤ 1024) ∧ (1 ≤ kh * kw * c ∧ kh * kw * c ≤ 1048576) := fun q => by
    obtain ⟨hw1, hw2⟩ := hw q
    obtain ⟨p1, p2⟩ := mul_bd hw1.1 hw1.2 hw2.1 hw2.2
    obtain ⟨q1, q2⟩ := mul_bd p1 p2 c1.1 c1.2
    exact ⟨⟨p1, by omega⟩, q1, by omega⟩
  rw [show stR 2 kh kw h w c = (if (2 : Int) = 1 then h * w * c else if (2 : Int) = 2 then kh * kw * c else kh * kw) from rfl]
  simp at hp ⊢
  obtain ⟨p', ep⟩ : ∃ p', h * w = p' := ⟨_, rfl⟩
  obtain ⟨q', eq⟩ : ∃ q', kh * kw = q' := ⟨_, rfl⟩
  rw [ep] at p3
  try rw [eq] at hp
  try rw [ep]
  try rw [eq]
  obtain ⟨y1, y2, y3⟩ := cells_at hr
  clear g hw c1 hr
  go_enter Try.func61, Try.ntmps61
  go_wp2
  go_quiet (fail)
  go_wp2
  go_ret
  exact ⟨rfl, _, rfl⟩
set_option maxHeartbeats 1000000 in
theorem tlen_3 (a b m kh kw sh sw tp lf bt rt : Int) (wa : Option Addr) (lw wc : Nat) (ba : Option Addr) (lb bc : Nat) (sm ss um us z p lo hi h w c H V C : Int) (r : Nat) (W : World) (hr : W.heap[r]? = some (.cells #[.int .i64 3, .int .i64 a, .int .i64 b, .int .i64 m, .int .i64 kh, .int .i64 kw, .int .i64 sh, .int .i64 sw, .int .i64 tp, .int .i64 lf, .int .i64 bt, .int .i64 rt, .slice wa lw wc, .slice ba lb bc, .int .i64 sm, .int .i64 ss, .int .i64 um, .int .i64 us, .int .i64 z, .int .i64 p, .int .i64 lo, .int .i64 hi, .int .i64 h, .int .i64 w, .int .i64 c, .int .i64 H, .int .i64 V, .int .i64 C] 87 (0, 0))) (g : vS h w c = true) (hw : (3 : Int) ≠ 1 → (1 ≤ kh ∧ kh ≤ 32) ∧ (1 ≤ kw ∧ kw ≤ 32)) :
    Calls Try.prog 61 #[.pointer (some ⟨r, 0, none⟩)] W fun e w' => e = .returned (.int .i64 (stR 3 kh kw h w c)) ∧ ∃ n, w' = W.drewN n := by
  have p3 : (1 ≤ h * w ∧ h * w ≤ 1048576) ∧ (1 ≤ h * w * c ∧ h * w * c ≤ 16384) := vS_bd g
  have c1 := (vS_yes g).2.2.1
  have hp : (3 : Int) ≠ 1 → (1 ≤ kh * kw ∧ kh * kw ≤ 1024) ∧ (1 ≤ kh * kw * c ∧ kh * kw * c ≤ 1048576) := fun q => by
    obtain ⟨hw1, hw2⟩ := hw q
    obtain ⟨p1, p2⟩ := mul_bd hw1.1 hw1.2 hw2.1 hw2.2
    obtain ⟨q1, q2⟩ := mul_bd p1 p2 c1.1 c1.2
    exact ⟨⟨p1, by omega⟩, q1, by omega⟩
  rw [show stR 3 kh kw h w c = (if (3 : Int) = 1 then h * w * c else if (3 : Int) = 2 then kh * kw * c else kh * kw) from rfl]
  simp at hp ⊢
  obtain ⟨p', ep⟩ : ∃ p', h * w = p' := ⟨_, rfl⟩
  obtain ⟨q', eq⟩ : ∃ q', kh * kw = q' := ⟨_, rfl⟩
  rw [ep] at p3
  try rw [eq] at hp
  try rw [ep]
  try rw [eq]
  obtain ⟨y1, y2, y3⟩ := cells_at hr
  clear g hw c1 hr
  go_enter Try.func61, Try.ntmps61
  go_wp2
  go_quiet (fail)
  go_wp2
  go_ret
  exact ⟨rfl, _, rfl⟩
set_option maxHeartbeats 1000000 in
theorem tlen_4 (a b m kh kw sh sw tp lf bt rt : Int) (wa : Option Addr) (lw wc : Nat) (ba : Option Addr) (lb bc : Nat) (sm ss um us z p lo hi h w c H V C : Int) (r : Nat) (W : World) (hr : W.heap[r]? = some (.cells #[.int .i64 4, .int .i64 a, .int .i64 b, .int .i64 m, .int .i64 kh, .int .i64 kw, .int .i64 sh, .int .i64 sw, .int .i64 tp, .int .i64 lf, .int .i64 bt, .int .i64 rt, .slice wa lw wc, .slice ba lb bc, .int .i64 sm, .int .i64 ss, .int .i64 um, .int .i64 us, .int .i64 z, .int .i64 p, .int .i64 lo, .int .i64 hi, .int .i64 h, .int .i64 w, .int .i64 c, .int .i64 H, .int .i64 V, .int .i64 C] 87 (0, 0))) (g : vS h w c = true) (hw : (4 : Int) ≠ 1 → (1 ≤ kh ∧ kh ≤ 32) ∧ (1 ≤ kw ∧ kw ≤ 32)) :
    Calls Try.prog 61 #[.pointer (some ⟨r, 0, none⟩)] W fun e w' => e = .returned (.int .i64 (stR 4 kh kw h w c)) ∧ ∃ n, w' = W.drewN n := by
  have p3 : (1 ≤ h * w ∧ h * w ≤ 1048576) ∧ (1 ≤ h * w * c ∧ h * w * c ≤ 16384) := vS_bd g
  have c1 := (vS_yes g).2.2.1
  have hp : (4 : Int) ≠ 1 → (1 ≤ kh * kw ∧ kh * kw ≤ 1024) ∧ (1 ≤ kh * kw * c ∧ kh * kw * c ≤ 1048576) := fun q => by
    obtain ⟨hw1, hw2⟩ := hw q
    obtain ⟨p1, p2⟩ := mul_bd hw1.1 hw1.2 hw2.1 hw2.2
    obtain ⟨q1, q2⟩ := mul_bd p1 p2 c1.1 c1.2
    exact ⟨⟨p1, by omega⟩, q1, by omega⟩
  rw [show stR 4 kh kw h w c = (if (4 : Int) = 1 then h * w * c else if (4 : Int) = 2 then kh * kw * c else kh * kw) from rfl]
  simp at hp ⊢
  obtain ⟨p', ep⟩ : ∃ p', h * w = p' := ⟨_, rfl⟩
  obtain ⟨q', eq⟩ : ∃ q', kh * kw = q' := ⟨_, rfl⟩
  rw [ep] at p3
  try rw [eq] at hp
  try rw [ep]
  try rw [eq]
  obtain ⟨y1, y2, y3⟩ := cells_at hr
  clear g hw c1 hr
  go_enter Try.func61, Try.ntmps61
  go_wp2
  go_quiet (fail)
  go_wp2
  go_ret
  exact ⟨rfl, _, rfl⟩
theorem tlen_any (k a b m kh kw sh sw tp lf bt rt : Int) (wa : Option Addr) (lw wc : Nat) (ba : Option Addr) (lb bc : Nat) (sm ss um us z p lo hi h w c H V C : Int) (r : Nat) (W : World) (hr : W.heap[r]? = some (.cells #[.int .i64 k, .int .i64 a, .int .i64 b, .int .i64 m, .int .i64 kh, .int .i64 kw, .int .i64 sh, .int .i64 sw, .int .i64 tp, .int .i64 lf, .int .i64 bt, .int .i64 rt, .slice wa lw wc, .slice ba lb bc, .int .i64 sm, .int .i64 ss, .int .i64 um, .int .i64 us, .int .i64 z, .int .i64 p, .int .i64 lo, .int .i64 hi, .int .i64 h, .int .i64 w, .int .i64 c, .int .i64 H, .int .i64 V, .int .i64 C] 87 (0, 0))) (s : Sit k kh kw sh sw tp lf bt rt h w c H V C lw lb) :
    Calls Try.prog 61 #[.pointer (some ⟨r, 0, none⟩)] W fun e w' => e = .returned (.int .i64 (stR k kh kw h w c)) ∧ ∃ n, w' = W.drewN n := by
  have hk := s.1
  have g := s.2.1
  have hw := s.win
  rcases (show k = 1 ∨ k = 2 ∨ k = 3 ∨ k = 4 by omega) with rfl | rfl | rfl | rfl
  · exact tlen_1 a b m kh kw sh sw tp lf bt rt wa lw wc ba lb bc sm ss um us z p lo hi h w c H V C r W hr g hw
  · exact tlen_2 a b m kh kw sh sw tp lf bt rt wa lw wc ba lb bc sm ss um us z p lo hi h w c H V C r W hr g hw
  · exact tlen_3 a b m kh kw sh sw tp lf bt rt wa lw wc ba lb bc sm ss um us z p lo hi h w c H V C r W hr g hw
  · exact tlen_4 a b m kh kw sh sw tp lf bt rt wa lw wc ba lb bc sm ss um us z p lo hi h w c H V C r W hr g hw
theorem tchan_any (k a b m kh kw sh sw tp lf bt rt : Int) (wa : Option Addr) (lw wc : Nat) (ba : Option Addr) (lb bc : Nat) (sm ss um us z p lo hi h w c H V C : Int) (r : Nat) (W : World) (hr : W.heap[r]? = some (.cells #[.int .i64 k, .int .i64 a, .int .i64 b, .int .i64 m, .int .i64 kh, .int .i64 kw, .int .i64 sh, .int .i64 sw, .int .i64 tp, .int .i64 lf, .int .i64 bt, .int .i64 rt, .slice wa lw wc, .slice ba lb bc, .int .i64 sm, .int .i64 ss, .int .i64 um, .int .i64 us, .int .i64 z, .int .i64 p, .int .i64 lo, .int .i64 hi, .int .i64 h, .int .i64 w, .int .i64 c, .int .i64 H, .int .i64 V, .int .i64 C] 87 (0, 0))) :
    Calls Try.prog 33 #[.pointer (some ⟨r, 0, none⟩)] W fun e w' => e = .returned (.int .i64 C) ∧ w' = W := by
  obtain ⟨y1, y2, y3⟩ := cells_at hr
  clear hr
  go_enter Try.func33, Try.ntmps33
  go_wp2
  go_ret
  exact ⟨rfl, rfl⟩
theorem tpos_any (k a b m kh kw sh sw tp lf bt rt : Int) (wa : Option Addr) (lw wc : Nat) (ba : Option Addr) (lb bc : Nat) (sm ss um us z p lo hi h w c H V C : Int) (r : Nat) (W : World) (hr : W.heap[r]? = some (.cells #[.int .i64 k, .int .i64 a, .int .i64 b, .int .i64 m, .int .i64 kh, .int .i64 kw, .int .i64 sh, .int .i64 sw, .int .i64 tp, .int .i64 lf, .int .i64 bt, .int .i64 rt, .slice wa lw wc, .slice ba lb bc, .int .i64 sm, .int .i64 ss, .int .i64 um, .int .i64 us, .int .i64 z, .int .i64 p, .int .i64 lo, .int .i64 hi, .int .i64 h, .int .i64 w, .int .i64 c, .int .i64 H, .int .i64 V, .int .i64 C] 87 (0, 0))) (g : vS H V C = true) :
    Calls Try.prog 34 #[.pointer (some ⟨r, 0, none⟩)] W fun e w' => e = .returned (.int .i64 (H * V)) ∧ ∃ n, w' = W.drewN n := by
  obtain ⟨y1, y2, y3⟩ := cells_at hr
  have p3 := vS_bd g
  clear hr g
  go_enter Try.func34, Try.ntmps34
  go_wp2
  go_quiet (fail)
  go_wp2
  go_ret
  exact ⟨rfl, _, rfl⟩
set_option maxHeartbeats 1000000 in
theorem tbias_any (k a b m kh kw sh sw tp lf bt rt : Int) (wa : Option Addr) (lw wc : Nat) (ba : Option Addr) (lb bc : Nat) (sm ss um us z p lo hi h w c H V C : Int) (r : Nat) (W : World) (hr : W.heap[r]? = some (.cells #[.int .i64 k, .int .i64 a, .int .i64 b, .int .i64 m, .int .i64 kh, .int .i64 kw, .int .i64 sh, .int .i64 sw, .int .i64 tp, .int .i64 lf, .int .i64 bt, .int .i64 rt, .slice wa lw wc, .slice ba lb bc, .int .i64 sm, .int .i64 ss, .int .i64 um, .int .i64 us, .int .i64 z, .int .i64 p, .int .i64 lo, .int .i64 hi, .int .i64 h, .int .i64 w, .int .i64 c, .int .i64 H, .int .i64 V, .int .i64 C] 87 (0, 0))) (bs : List Int) (hB : IRow .i32 W ba lb bc bs) (s : Sit k kh kw sh sw tp lf bt rt h w c H V C lw lb) (ch : Int) (hc : 1 ≤ ch ∧ ch ≤ C) :
    Calls Try.prog 36 #[.pointer (some ⟨r, 0, none⟩), .int .i64 ch] W fun e w' => e = .returned (.int .i64 (biA k ch bs)) ∧ w' = W := by
  obtain ⟨y1, y2, y3⟩ := cells_at hr
  obtain ⟨hk, -, hv, -, -, -, hl, -⟩ := s
  have hC := (vS_yes hv).2.2.1
  clear hr
  by_cases k4 : k = 4
  · subst k4
    rw [show biA 4 ch bs = 0 from if_pos rfl]
    go_enter Try.func36, Try.ntmps36
    go_wp2
    go_ret
    exact ⟨rfl, rfl⟩
  · rw [show biA k ch bs = bs.getD (ch - 1).toNat 0 from if_neg k4]
    have hl2 := (hl (by omega)).2
    obtain ⟨n, rfl⟩ : ∃ n : Nat, ch = (n : Int) + 1 := ⟨(ch - 1).toNat, by omega⟩
    have hm := hB.2.2.1
    have hcc := hB.2.1
    unfold maxLen at hm
    obtain ⟨x, u, rfl, hu, hwf, hz, -⟩ := hB.at (show n < lb by omega)
    obtain ⟨u1, u2⟩ := wf_i32 hwf
    have e : bs.getD ((n : Int) + 1 - 1).toNat 0 = u := by rw [show ((n : Int) + 1 - 1).toNat = n by omega, List.getD_eq_getElem?_getD, hz]; rfl
    rw [e]
    have k4' : (k == 4) = false := by simp [k4]
    clear e hz hwf hB hl
    go_enter Try.func36, Try.ntmps36
    go_wp2
    go_ret
    exact ⟨rfl, rfl⟩
set_option maxHeartbeats 1000000 in
theorem twei_any (k a b m kh kw sh sw tp lf bt rt : Int) (wa : Option Addr) (lw wc : Nat) (ba : Option Addr) (lb bc : Nat) (sm ss um us z p lo hi h w c H V C : Int) (r : Nat) (W : World) (hr : W.heap[r]? = some (.cells #[.int .i64 k, .int .i64 a, .int .i64 b, .int .i64 m, .int .i64 kh, .int .i64 kw, .int .i64 sh, .int .i64 sw, .int .i64 tp, .int .i64 lf, .int .i64 bt, .int .i64 rt, .slice wa lw wc, .slice ba lb bc, .int .i64 sm, .int .i64 ss, .int .i64 um, .int .i64 us, .int .i64 z, .int .i64 p, .int .i64 lo, .int .i64 hi, .int .i64 h, .int .i64 w, .int .i64 c, .int .i64 H, .int .i64 V, .int .i64 C] 87 (0, 0))) (zs : List Int) (hZ : IRow .i16 W wa lw wc zs) (s : Sit k kh kw sh sw tp lf bt rt h w c H V C lw lb) (ch : Int) (hc : 1 ≤ ch ∧ ch ≤ C) (i : Nat) (hi0 : (i : Int) < stR k kh kw h w c) :
    Calls Try.prog 50 #[.pointer (some ⟨r, 0, none⟩), .int .i64 ch, .int .i64 i] W fun e w' => e = .returned (.int .i64 (wgA k ch (stR k kh kw h w c) zs i)) ∧ ∃ n, w' = W.drewN n := by
  have hL : Hid (∀ n, Calls Try.prog 61 #[.pointer (some ⟨r, 0, none⟩)] (W.drewN n) fun e w' => e = .returned (.int .i64 (stR k kh kw h w c)) ∧ ∃ m, w' = (W.drewN n).drewN m) := fun n => tlen_any k a b m kh kw sh sw tp lf bt rt wa lw wc ba lb bc sm ss um us z p lo hi h w c H V C r (W.drewN n) hr s
  obtain ⟨y1, y2, y3⟩ := cells_at hr
  obtain ⟨hk, -, hv, -, -, -, hl, -, hst0, hst1⟩ := s
  have hC := (vS_yes hv).2.2.1
  obtain ⟨st, hst⟩ : ∃ st, stR k kh kw h w c = st := ⟨_, rfl⟩
  rw [hst] at hL hl hst0 hst1 hi0 ⊢
  clear hr hst hv
  by_cases k4 : k = 4
  · subst k4
    rw [show wgA 4 ch st zs i = 1 from if_pos rfl]
    go_enter Try.func50, Try.ntmps50
    go_wp2
    go_ret
    exact ⟨rfl, 0, rfl⟩
  · rw [show wgA k ch st zs i = zs.getD ((ch - 1) * st + i).toNat 0 from if_neg k4]
    have hl2 := (hl (by omega)).1
    obtain ⟨d, rfl⟩ : ∃ d : Nat, ch = (d : Int) + 1 := ⟨(ch - 1).toNat, by omega⟩
    have hm := hZ.2.2.1
    have hcc := hZ.2.1
    unfold maxLen at hm
    have p1 : 0 ≤ (d : Int) * st := Int.mul_nonneg (by omega) (by omega)
    have p2 : (d : Int) * st + st ≤ C * st := by
      have := Int.mul_le_mul_of_nonneg_right (show (d : Int) + 1 ≤ C by omega) (show 0 ≤ st by omega)
      rwa [Int.add_mul, Int.one_mul] at this
    obtain ⟨p', ep⟩ : ∃ p', (d : Int) * st = p' := ⟨_, rfl⟩
    rw [show (d : Int) + 1 - 1 = d by omega, ep]
    rw [ep] at p1 p2
    rw [← hl2] at p2
    obtain ⟨N, eN⟩ : ∃ N : Nat, p' + (i : Int) = (N : Int) := ⟨(p' + i).toNat, by omega⟩
    rw [eN]
    have hN : N < lw := by omega
    obtain ⟨x, u, rfl, hu, hwf, hz, -⟩ := hZ.at hN
    obtain ⟨u1, u2⟩ := wf_i16 hwf
    have e : zs.getD ((N : Int)).toNat 0 = u := by rw [Int.toNat_natCast, List.getD_eq_getElem?_getD, hz]; rfl
    rw [e]
    have k4' : (k == 4) = false := by simp [k4]
    have hd1 : (d : Int) + 1 ≤ 1024 := by omega
    have hi2 : (i : Int) ≤ 512 := by omega
    clear e hz hwf hZ hl hl2 hC hc
    go_enter Try.func50, Try.ntmps50
    go_wp2
    go_quiet ((go_at_call 61; exact Calls.quiet_of (hL.out _)))
    go_wp2
    go_ret
    exact ⟨rfl, _, rfl⟩
/-- The channels that are read: the first, and the one behind the last. -/
def chF (k ch : Int) : Int := if k = 2 then 0 else ch - 1
def chB (k c ch : Int) : Int := if k = 2 then c else ch
theorem tread_any (k a b m kh kw sh sw tp lf bt rt : Int) (wa : Option Addr) (lw wc : Nat) (ba : Option Addr) (lb bc : Nat) (sm ss um us z p lo hi h w c H V C : Int) (r : Nat) (W : World) (hr : W.heap[r]? = some (.cells #[.int .i64 k, .int .i64 a, .int .i64 b, .int .i64 m, .int .i64 kh, .int .i64 kw, .int .i64 sh, .int .i64 sw, .int .i64 tp, .int .i64 lf, .int .i64 bt, .int .i64 rt, .slice wa lw wc, .slice ba lb bc, .int .i64 sm, .int .i64 ss, .int .i64 um, .int .i64 us, .int .i64 z, .int .i64 p, .int .i64 lo, .int .i64 hi, .int .i64 h, .int .i64 w, .int .i64 c, .int .i64 H, .int .i64 V, .int .i64 C] 87 (0, 0))) (ch : Int) (hc : 1 ≤ ch ∧ ch ≤ 1024) :
    Calls Try.prog 62 #[.pointer (some ⟨r, 0, none⟩), .int .i64 ch] W fun e w' => e = .returned (.tuple #[.int .i64 (chF k ch), .int .i64 (chB k c ch)]) ∧ ∃ n, w' = W.drewN n := by
  obtain ⟨y1, y2, y3⟩ := cells_at hr
  clear hr
  by_cases k2 : k = 2
  · subst k2
    rw [show chF 2 ch = 0 from if_pos rfl, show chB 2 c ch = c from if_pos rfl]
    go_enter Try.func62, Try.ntmps62
    go_wp2
    go_quiet (fail)
    go_wp2
    go_ret2
    exact ⟨rfl, _, rfl⟩
  · rw [show chF k ch = ch - 1 from if_neg k2, show chB k c ch = ch from if_neg k2]
    have k2' : (k == 2) = false := by simp [k2]
    go_enter Try.func62, Try.ntmps62
    go_wp2
    go_ret2
    exact ⟨rfl, 0, rfl⟩
theorem tplace_any (k a b m kh kw sh sw tp lf bt rt : Int) (wa : Option Addr) (lw wc : Nat) (ba : Option Addr) (lb bc : Nat) (sm ss um us z p lo hi h w c H V C : Int) (r : Nat) (W : World) (hr : W.heap[r]? = some (.cells #[.int .i64 k, .int .i64 a, .int .i64 b, .int .i64 m, .int .i64 kh, .int .i64 kw, .int .i64 sh, .int .i64 sw, .int .i64 tp, .int .i64 lf, .int .i64 bt, .int .i64 rt, .slice wa lw wc, .slice ba lb bc, .int .i64 sm, .int .i64 ss, .int .i64 um, .int .i64 us, .int .i64 z, .int .i64 p, .int .i64 lo, .int .i64 hi, .int .i64 h, .int .i64 w, .int .i64 c, .int .i64 H, .int .i64 V, .int .i64 C] 87 (0, 0))) (q d : Int) (hq : -1 ≤ q ∧ q ≤ 16384) (hd : 0 ≤ d ∧ d ≤ 1024) (hc : 1 ≤ c ∧ c ≤ 1024) :
    Calls Try.prog 64 #[.pointer (some ⟨r, 0, none⟩), .int .i64 q, .int .i64 d] W fun e w' => e = .returned (.int .i64 (cov c q d)) ∧ w' = W := by
  obtain ⟨y1, y2, y3⟩ := cells_at hr
  clear hr
  by_cases q1 : q = -1
  · subst q1
    rw [show cov c (-1) d = -1 from if_pos rfl]
    go_enter Try.func64, Try.ntmps64
    go_wp2
    go_ret
    exact ⟨rfl, rfl⟩
  · rw [show cov c q d = q * c + d from if_neg q1]
    have q1' : (q == -1) = false := by simp [q1]
    have p1 : 0 ≤ q * c := Int.mul_nonneg (by omega) (by omega)
    have p2 : q * c ≤ 16384 * 1024 := Int.mul_le_mul hq.2 hc.2 (by omega) (by omega)
    obtain ⟨p', ep⟩ : ∃ p', q * c = p' := ⟨_, rfl⟩
    rw [ep] at p1 p2 ⊢
    go_enter Try.func64, Try.ntmps64
    go_wp2
    go_ret
    exact ⟨rfl, rfl⟩
end Go.Proofs.Ytkdnpkpmlckmnaa

/- The iterator of Taps: called with whatever round, it gives each tap in its order, till it is told to stop. -/
namespace Go.Proofs.Ytkdnpkpmlckmnaa
open Go.ChangeShapes Go.WideShapes Go.ChangeAt Go.RowKit Go.Shelf
attribute [local go_sem] Oper.semAt_some
/-- What a round keeps: the listed blocks. -/
def Kept (l : List Nat) (W W' : World) : Prop := ∀ b ∈ l, ∀ c t, W.heap[b]? = some (.cells c t (0, 0)) → W'.heap[b]? = some (.cells c t (0, 0))
theorem Kept.refl (l : List Nat) (W : World) : Kept l W W := fun _ _ _ _ h => h
theorem Kept.trans {l : List Nat} {A B C : World} (h : Kept l A B) (k : Kept l B C) : Kept l A C := fun b hb c t hc => k b hb c t (h b hb c t hc)
theorem Kept.put {l : List Nat} (W : World) (i : Nat) (o o' : Obj) (h : W.heap[i]? = some o) (ho : o.isCells = false) : Kept l W (W.putObj i o') := fun b _ _ _ hc => by
  by_cases e : b = i
  · subst e; rw [h] at hc; cases hc; cases ho
  · rw [World.putObj_heap_other e]; exact hc
theorem Kept.below {l : List Nat} {W W' : World} (h : Below W.heap.size W W') : Kept l W W' := fun b _ _ _ hc => (h.block b (lt_of_heap hc)).trans hc
theorem Kept.grown {l : List Nat} {W W' : World} {g : Option Nat} (h : W.grownBy W' g) (hg : ∀ b, g = some b → b ∉ l) : Kept l W W' := fun b hb _ _ hc => (h.block b (lt_of_heap hc) (fun e => hg b e.symm hb)).trans hc
/-- A world in which all that lay in W lies as it lay. -/
def Wn (W : World) : Type := Subtype fun w : World => Below W.heap.size W w
def Wn.w {W : World} (n : Wn W) : World := n.1
theorem Wn.h {W : World} (n : Wn W) : Below W.heap.size W n.w := n.2
def Wn.mk {W : World} (w : World) (h : Below W.heap.size W w) : Wn W := Subtype.mk w h
theorem Wn.rule {W : World} {B : Nat} {c : Array Value} {t : TypeId} (h : W.heap[B]? = some (.cells c t (0, 0))) : ∀ (n : Wn W) (i : Nat), n.w.cell? ⟨B, i, none⟩ = c[i]? := fun n i => by
  have h0 : n.w.heap[B]? = some (.cells c t (0, 0)) := (n.h.block B (lt_of_heap h)).trans h
  simp [World.cell?, h0]
theorem wn_call {f : FuncId} {args : Array Value} {W : World} {n : Wn W} {m : Nat} {v : Value}
    (h : Calls Try.prog f args n.w fun e w' => e = .returned v ∧ Below n.w.heap.size n.w w') : CallsIn Fence.wide m Try.prog f args n.w fun e w'' => e = .returned v ∧ ∃ k : Wn W, w'' = k.w :=
  callsIn_wide.2 (h.mono fun _ _ ⟨he, hb⟩ => ⟨he, Wn.mk _ (n.h.trans (hb.mono n.h.size)), rfl⟩)
theorem grownBy_of_below {W W' : World} (k : Below W.heap.size W W') : W.grownBy W' none := ⟨k.os, k.tape, k.output, k.size, fun i hi _ => k.block i hi⟩
theorem abides_below {β : Type} {B : Nat} {J : β → World → Prop} (hJ : AbidesFrom B J) {s : β} {W W' : World} (h : J s W) (k : Below W.heap.size W W') : J s W' :=
  hJ s W W' none h (grownBy_of_below k) (fun r e => by cases e)
set_option maxRecDepth 100000 in
set_option maxHeartbeats 4000000 in
theorem taps1_in (m : Nat) (l B1 B2 B3 B4 B5 : Nat) (h w c kh kw sh sw tp lf bt rt t u : Int) (N : Nat) (J Jx : List (Int × Int) → World → Prop) (W : World)
    (hC : N = 0 ∨ Cor h w kh kw t u ∧ N = (kh * kw).toNat)
    (hJ : AbidesFrom W.heap.size J)
    (hY : ∀ pre x W1, J pre W1 → pre.length < N → YieldAt Fence.wide (m - 1) Try.prog l #[.int .i64 x.1, .int .i64 x.2] W1 fun e W' =>
      (e = .returned (.bool true) ∧ J (pre ++ [x]) W' ∧ Kept [B2, B3, B4, B5] W1 W') ∨ (e = .returned (.bool false) ∧ Jx (pre ++ [x]) W'))
    (c1 : W.heap[B1]? = some (.cells #[.int .i64 N] 3 (0, 0))) (c2 : W.heap[B2]? = some (.cells #[.int .i64 h, .int .i64 w, .int .i64 c] 23 (0, 0))) (c3 : W.heap[B3]? = some (.cells #[.int .i64 t] 3 (0, 0)))
    (c4 : W.heap[B4]? = some (.cells #[.int .i64 kh, .int .i64 kw, .int .i64 sh, .int .i64 sw, .int .i64 tp, .int .i64 lf, .int .i64 bt, .int .i64 rt] 33 (0, 0))) (c5 : W.heap[B5]? = some (.cells #[.int .i64 u] 3 (0, 0))) (h0 : J [] W) :
    CallsIn Fence.wide m Try.prog 76 #[.func (.yield l) #[] #[], .pointer (some ⟨B1, 0, none⟩), .pointer (some ⟨B2, 0, none⟩), .pointer (some ⟨B3, 0, none⟩), .pointer (some ⟨B4, 0, none⟩), .pointer (some ⟨B5, 0, none⟩)] W fun e W' => (∃ v, e = .returned v) ∧
      ((∃ ys, ys = tapL h w kw t u N ∧ J ys W') ∨ (∃ pre, (∃ k, k ≤ N ∧ pre = tapL h w kw t u k) ∧ Jx pre W')) := by
  have r1 : W.cell? ⟨B1, 0, none⟩ = some (.int .i64 N) := by simp [World.cell?, c1]
  refine callsIn_of_wp Try.func76 rfl trivial ?_ rfl
  simp only [Try.ntmps76, List.size_toArray, List.length_cons, List.length_nil, Nat.reduceAdd, Nat.reduceSub, Array.replicate_succ, Array.replicate_zero, List.push_toArray, List.append_toArray, List.nil_append, List.cons_append]
  gi_wp2
  gi_loopw [9] (fun i wr => ∃ k : Nat, k ≤ N ∧ i = .int .i64 k ∧ J (tapL h w kw t u k) wr ∧ Kept [B2, B3, B4, B5] W wr)
    (fun i _ => N - (intOf i).toNat)
  case atStart => exact ⟨0, Nat.zero_le _, rfl, h0, Kept.refl _ _⟩
  case round =>
    obtain ⟨k, hk, rfl, hJs, hkp⟩ := hrel
    by_cases hlt : k < N
    · rcases hC with rfl | ⟨⟨h1, w1, q9, k1, k2, t1, u1⟩, hN⟩
      · omega
      have d2 := hkp B2 (by simp) _ _ c2
      have d3 := hkp B3 (by simp) _ _ c3
      have d4 := hkp B4 (by simp) _ _ c4
      have d5 := hkp B5 (by simp) _ _ c5
      have e2 := Wn.rule d2
      have e3 := Wn.rule d3
      have e4 := Wn.rule d4
      have e5 := Wn.rule d5
      have p1 := Int.ediv_nonneg (show (0 : Int) ≤ k by omega) (show 0 ≤ kw by omega)
      have p3 := Int.mul_nonneg (show 0 ≤ kh by omega) (show 0 ≤ kw by omega)
      have p2 : (k : Int) / kw < kh := Int.ediv_lt_of_lt_mul (by omega) (by omega)
      have p4 := Int.emod_nonneg (k : Int) (show kw ≠ 0 by omega)
      have p5 := Int.emod_lt_of_pos (k : Int) (show 0 < kw by omega)
      have t6 := td (c := kw) (show (0 : Int) ≤ k by omega)
      have t7 := tm (c := kw) (show (0 : Int) ≤ k by omega)
      obtain ⟨d, hd⟩ : ∃ d, (k : Int) / kw = d := ⟨_, rfl⟩
      obtain ⟨e, he⟩ : ∃ e, (k : Int) % kw = e := ⟨_, rfl⟩
      have HT : Hid (tap h w kw t u k = ((k : Int), plc h w (t + d) (u + e))) := by unfold Hid tap; rw [hd, he]
      rw [hd] at p1 p2 t6
      rw [he] at p4 p5 t7
      have kw0 : ¬ kw = 0 := by omega
      have kN : N ≤ 1024 := by
        have := Int.mul_le_mul k1.2 k2.2 (by omega) (by omega)
        omega
      have HN : Hid (N = (kh * kw).toNat) := hN
      clear hd he hN p3
      have hfn : ∀ f, Fence.wide.fn f := fun _ => trivial
      have hdp : Fence.wide.depth = none := rfl
      have hne : Nonempty (Wn wr) := ⟨Wn.mk wr (Below.refl _ _)⟩
      gi_wp2
      refine region_tail_at 16 (C := fun w' => ∃ n : Wn wr, w' = n.w) rfl rfl (by kernel_rfl) (by kernel_rfl) ⟨Wn.mk _ (Below.refl _ _).drew, rfl⟩ ?_
      simp only [List.take_succ_cons, List.take_zero, List.drop_succ_cons, List.drop_zero]
      repeat (gi_big_quiet_step (exact wn_call (place_any _ _ _ _ _ _ (by omega) (by omega) h1 w1)))
      refine wpQuietIn_nil ?_
      rintro _ ⟨n, rfl⟩
      obtain ⟨fn, tmps, assign, body, hy, hR⟩ := hY (tapL h w kw t u k) (tap h w kw t u k) n.w (abides_below hJ hJs n.h) (by rw [tapL_len]; exact hlt)
      rw [← tapL_succ] at hR
      rw [HT.out] at hy
      dsimp only at hy
      gi_wp2
      refine hR.mono ?_
      rintro e W3 (⟨rfl, hJ3, hk3⟩ | ⟨rfl, hJx3⟩)
      · gi_wp2
        go_roundw
        case rel => exact ⟨k + 1, by omega, by simp, hJ3, (hkp.trans (Kept.below n.h)).trans hk3⟩
        case measure => simp [intOf]; omega
      · gi_wp2
        refine bodyPost_ret (results_none rfl _ _ _) rfl ?_
        exact ⟨⟨_, rfl⟩, .inr ⟨_, ⟨k + 1, by omega, rfl⟩, hJx3⟩⟩
    · obtain rfl : k = N := by omega
      gi_wp2
      go_end0
      exact ⟨⟨_, rfl⟩, .inl ⟨_, rfl, hJs⟩⟩
end Go.Proofs.Ytkdnpkpmlckmnaa

/- The iterator of Positions: called with whatever round, it gives each position's row and column in their order, till it is told to stop. -/
namespace Go.Proofs.Ytkdnpkpmlckmnaa
open Go.ChangeShapes Go.WideShapes Go.ChangeAt Go.RowKit Go.Shelf
attribute [local go_sem] Oper.semAt_some
theorem spot_at {q y x : Nat} (hx : x < q) : (((y * q + x : Nat) : Int) / (q : Int), ((y * q + x : Nat) : Int) % (q : Int)) = ((y : Int), (x : Int)) := by
  have e1 : ((y * q + x : Nat) : Int) / (q : Int) = y := by
    rw [← Int.natCast_ediv]
    congr 1
    rw [Nat.mul_comm, Nat.mul_add_div (by omega), Nat.div_eq_of_lt hx, Nat.add_zero]
  have e2 : ((y * q + x : Nat) : Int) % (q : Int) = x := by
    rw [← Int.natCast_emod]
    congr 1
    rw [Nat.mul_comm, Nat.mul_add_mod, Nat.mod_eq_of_lt hx]
  rw [e1, e2]
end Go.Proofs.Ytkdnpkpmlckmnaa

/- What corner of package window, and the document's Has, return: each for every argument. -/
namespace Go.Proofs.Ytkdnpkpmlckmnaa
open Go.ChangeShapes Go.WideShapes Go.ChangeAt Go.RowKit
theorem drewN_below (w : World) (n : Nat) : Below w.heap.size w (w.drewN n) := below_drewN (Below.refl _ _) n
theorem coR_bad {h w c kh kw sh sw tp lf bt rt n e : Int} (he : ouR h w c kh kw sh sw tp lf bt rt = (0, 0, e)) (h2 : e ≠ 0) : coR h w c kh kw sh sw tp lf bt rt n = (0, 0, e) := by unfold coR; rw [he, if_neg (by simpa using h2)]
theorem coR_out {h w c kh kw sh sw tp lf bt rt n r q : Int} (he : ouR h w c kh kw sh sw tp lf bt rt = (r, q, 0)) (hn : ¬ (0 ≤ n ∧ n < r * q)) : coR h w c kh kw sh sw tp lf bt rt n = (0, 0, 3) := by unfold coR; rw [he, if_pos rfl, if_neg hn]
theorem coR_in {h w c kh kw sh sw tp lf bt rt n r q : Int} (he : ouR h w c kh kw sh sw tp lf bt rt = (r, q, 0)) (hn : 0 ≤ n ∧ n < r * q) : coR h w c kh kw sh sw tp lf bt rt n = (n / q * sh - tp, n % q * sw - lf, 0) := by unfold coR; rw [he, if_pos rfl, if_pos hn]
set_option maxHeartbeats 4000000 in
theorem corner_any (h w c kh kw sh sw tp lf bt rt n : Int) (W : World) :
    Calls Try.prog 75 #[.agg #[.int .i64 h, .int .i64 w, .int .i64 c], .agg #[.int .i64 kh, .int .i64 kw, .int .i64 sh, .int .i64 sw, .int .i64 tp, .int .i64 lf, .int .i64 bt, .int .i64 rt], .int .i64 n] W fun e w' => e = .returned (.tuple #[.int .i64 (coR h w c kh kw sh sw tp lf bt rt n).1, .int .i64 (coR h w c kh kw sh sw tp lf bt rt n).2.1, .int .i64 (coR h w c kh kw sh sw tp lf bt rt n).2.2]) ∧ Below W.heap.size W w' := by
  rcases ouR_cases h w c kh kw sh sw tp lf bt rt with ⟨e, he, h2⟩ | ⟨r, q, he, hf⟩
  · rw [coR_bad he (by omega)]
    have HO : Hid (ouR h w c kh kw sh sw tp lf bt rt = (0, 0, e)) := he
    clear he
    rcases h2 with rfl | rfl
    · go_enter Try.func75, Try.ntmps75
      go_wp2_with fail
      refine (out_any _ _ _ _ _ _ _ _ _ _ _ _).mono ?_
      rintro e w1 ⟨rfl, hb'⟩
      have s1 := (St.start W).new.new.call hb'
      clear hb'
      try simp only [World.size_setCell] at s1
      try simp only [World.size_alloc] at s1
      obtain ⟨c1, f1, zw1_1, c2, f2, zw1_2, -⟩ := s1.rules
      rw [HO.out]
      go_wp2
      go_ret3
      exact ⟨rfl, s1.below⟩
    · go_enter Try.func75, Try.ntmps75
      go_wp2_with fail
      refine (out_any _ _ _ _ _ _ _ _ _ _ _ _).mono ?_
      rintro e w1 ⟨rfl, hb'⟩
      have s1 := (St.start W).new.new.call hb'
      clear hb'
      try simp only [World.size_setCell] at s1
      try simp only [World.size_alloc] at s1
      obtain ⟨c1, f1, zw1_1, c2, f2, zw1_2, -⟩ := s1.rules
      rw [HO.out]
      go_wp2
      go_ret3
      exact ⟨rfl, s1.below⟩
  · obtain ⟨⟨h1, v1, q9⟩, ⟨k1, k2, k3, k4, k5, k6, k7, k8⟩, r1, q1, z1, z2⟩ := hf
    obtain ⟨m1, m2⟩ := mul_bd r1.1 r1.2 q1.1 q1.2
    have HO : Hid (ouR h w c kh kw sh sw tp lf bt rt = (r, q, 0)) := he
    clear he z1 z2 q9
    obtain ⟨m, hm⟩ : ∃ m, r * q = m := ⟨_, rfl⟩
    have HM : Hid (r * q = m) := hm
    rw [hm] at m1 m2
    by_cases n1 : n < 0
    · rw [coR_out HO.out (by omega)]
      clear hm
      go_enter Try.func75, Try.ntmps75
      go_wp2_with fail
      refine (out_any _ _ _ _ _ _ _ _ _ _ _ _).mono ?_
      rintro e w1 ⟨rfl, hb'⟩
      have s1 := (St.start W).new.new.call hb'
      clear hb'
      try simp only [World.size_setCell] at s1
      try simp only [World.size_alloc] at s1
      obtain ⟨c1, f1, zw1_1, c2, f2, zw1_2, -⟩ := s1.rules
      rw [HO.out]
      go_wp2
      go_ret3
      exact ⟨rfl, s1.below⟩
    by_cases n2 : m ≤ n
    · rw [coR_out HO.out (by omega)]
      go_enter Try.func75, Try.ntmps75
      go_wp2_with fail
      refine (out_any _ _ _ _ _ _ _ _ _ _ _ _).mono ?_
      rintro e w1 ⟨rfl, hb'⟩
      have s1 := (St.start W).new.new.call hb'
      clear hb'
      try simp only [World.size_setCell] at s1
      try simp only [World.size_alloc] at s1
      obtain ⟨c1, f1, zw1_1, c2, f2, zw1_2, -⟩ := s1.rules
      rw [HO.out]
      go_wp2
      go_ret3
      exact ⟨rfl, s1.below⟩
    rw [coR_in HO.out (by omega)]
    have a1 := Int.ediv_nonneg (show 0 ≤ n by omega) (show 0 ≤ q by omega)
    have a2 : n / q < r := Int.ediv_lt_of_lt_mul (by omega) (by omega)
    have b1 := Int.emod_nonneg n (show q ≠ 0 by omega)
    have b2 := Int.emod_lt_of_pos n (show 0 < q by omega)
    have t1 := td (c := q) (show 0 ≤ n by omega)
    have t2 := tm (c := q) (show 0 ≤ n by omega)
    obtain ⟨d, hd⟩ : ∃ d, n / q = d := ⟨_, rfl⟩
    obtain ⟨u, hu⟩ : ∃ u, n % q = u := ⟨_, rfl⟩
    rw [hd] at a1 a2 t1
    rw [hu] at b1 b2 t2
    rw [hd, hu]
    clear hd hu
    have c1 := Int.mul_le_mul (show d ≤ 1200 by omega) k3.2 (by omega) (by omega)
    have c2 := Int.mul_le_mul (show u ≤ 1200 by omega) k4.2 (by omega) (by omega)
    have c3 := Int.mul_nonneg a1 (show 0 ≤ sh by omega)
    have c4 := Int.mul_nonneg b1 (show 0 ≤ sw by omega)
    obtain ⟨p, hp⟩ : ∃ p, d * sh = p := ⟨_, rfl⟩
    obtain ⟨v, hv⟩ : ∃ v, u * sw = v := ⟨_, rfl⟩
    rw [hp] at c1 c3
    rw [hv] at c2 c4
    rw [hp, hv]
    have q0 : ¬ q = 0 := by omega
    go_enter Try.func75, Try.ntmps75
    go_wp2_with fail
    refine (out_any _ _ _ _ _ _ _ _ _ _ _ _).mono ?_
    rintro e w1 ⟨rfl, hb'⟩
    have s1 := (St.start W).new.new.call hb'
    clear hb'
    try simp only [World.size_setCell] at s1
    try simp only [World.size_alloc] at s1
    obtain ⟨c1, f1, zw1_1, c2, f2, zw1_2, -⟩ := s1.rules
    rw [HO.out]
    go_wp2
    go_quiet (fail)
    go_wp2
    go_ret3
    exact ⟨rfl, s1.below.trans ((drewN_below _ _).mono s1.below.size)⟩
end Go.Proofs.Ytkdnpkpmlckmnaa

/- Taps and Positions hand back iterators: what they give, and for how long. -/
namespace Go.Proofs.Ytkdnpkpmlckmnaa
open Go.ChangeShapes Go.WideShapes Go.ChangeAt Go.RowKit Go.Shelf
/-- What lies from block lo on, ahead of block hi, lies as it lay. -/
def Mid (lo hi : Nat) (W W' : World) : Prop := ∀ b, lo ≤ b → b < hi → ∀ c t, W.heap[b]? = some (.cells c t (0, 0)) → W'.heap[b]? = some (.cells c t (0, 0))
theorem Mid.refl (lo hi : Nat) (W : World) : Mid lo hi W W := fun _ _ _ _ _ h => h
theorem Mid.trans {lo hi : Nat} {A B C : World} (h : Mid lo hi A B) (k : Mid lo hi B C) : Mid lo hi A C := fun b h1 h2 c t hc => k b h1 h2 c t (h b h1 h2 c t hc)
theorem Mid.put {lo hi : Nat} (W : World) (i : Nat) (o o' : Obj) (h : W.heap[i]? = some o) (ho : o.isCells = false) : Mid lo hi W (W.putObj i o') := fun b _ _ _ _ hc => by
  by_cases e : b = i
  · subst e; rw [h] at hc; cases hc; cases ho
  · rw [World.putObj_heap_other e]; exact hc
theorem Mid.below {lo hi n : Nat} {W W' : World} (h : Below n W W') (hn : hi ≤ n) : Mid lo hi W W' := fun b _ h2 _ _ hc => (h.block b (by omega)).trans hc
theorem Mid.later {lo hi : Nat} {W W' : World} (h : Below W.heap.size W W') : Mid lo hi W W' := fun b _ _ _ _ hc => (h.block b (lt_of_heap hc)).trans hc
theorem Mid.grown {lo hi : Nat} {W W' : World} {g : Option Nat} (h : W.grownBy W' g) (hg : ∀ b, g = some b → b < lo ∨ hi ≤ b) : Mid lo hi W W' := fun b h1 h2 _ _ hc => (h.block b (lt_of_heap hc) (fun e => by have := hg b e.symm; omega)).trans hc
theorem Mid.set {lo hi : Nat} (W : World) {B i : Nat} {v : Value} (hB : B < lo ∨ hi ≤ B) : Mid lo hi W (W.setCell ⟨B, i, none⟩ v) := fun b h1 h2 _ _ hc => by
  rw [Below.heap_setCell _ _ _ _ (by show b ≠ B; omega)]; exact hc
theorem Mid.kept {lo hi : Nat} {l : List Nat} {W W' : World} (h : Mid lo hi W W') (hl : ∀ b ∈ l, lo ≤ b ∧ b < hi) : Kept l W W' := fun b hb c t hc => h b (hl b hb).1 (hl b hb).2 c t hc
/-- An iterator that lies from block lo on, ahead of block hi, and gives these pairs. -/
def It (lo hi : Nat) (w : World) (v : Value) (ys : List (Int × Int)) : Prop :=
  ∃ g lb, v = .func (.func g) #[] lb ∧ (∀ args w, (callFunc g args).run Try.prog w = .ok (.enter g args) w) ∧
    ∀ w' m, Mid lo hi w w' → SeqStopsK Fence.wide m Try.prog g lb (fun x : Int × Int => #[Value.int .i64 x.1, Value.int .i64 x.2]) (Mid lo hi) (fun zs => zs = ys) (fun pre => ∃ k, k ≤ ys.length ∧ pre = ys.take k) ys.length w'
theorem It.mid {lo hi : Nat} {w w' : World} {v : Value} {ys : List (Int × Int)} (h : It lo hi w v ys) (k : Mid lo hi w w') : It lo hi w' v ys := by
  obtain ⟨g, lb, h1, h2, h3⟩ := h
  exact ⟨g, lb, h1, h2, fun w'' m k' => h3 w'' m (k.trans k')⟩
theorem It.later {lo hi : Nat} {w w' : World} {v : Value} {ys : List (Int × Int)} (h : It lo hi w v ys) (k : Below w.heap.size w w') : It lo hi w' v ys := h.mid (Mid.later k)
theorem cell_of {lo hi : Nat} {w w' W : World} {b : Nat} {c : Array Value} {t : TypeId} (h : w.heap[b]? = some (.cells c t (0, 0))) (h1 : lo ≤ b) (h2 : b < hi) (k : Mid lo hi w w') (hW : Below w'.heap.size w' W) : W.heap[b]? = some (.cells c t (0, 0)) :=
  Mid.later (lo := lo) (hi := hi) hW b h1 h2 c t (k b h1 h2 c t h)
theorem it_taps {lo hi : Nat} {w0 : World} {B1 B2 B3 B4 B5 : Nat} {h w c kh kw sh sw tp lf bt rt t u : Int} {N : Nat} (hC : N = 0 ∨ Cor h w kh kw t u ∧ N = (kh * kw).toNat)
    (c1 : w0.heap[B1]? = some (.cells #[.int .i64 N] 3 (0, 0))) (c2 : w0.heap[B2]? = some (.cells #[.int .i64 h, .int .i64 w, .int .i64 c] 23 (0, 0))) (c3 : w0.heap[B3]? = some (.cells #[.int .i64 t] 3 (0, 0)))
    (c4 : w0.heap[B4]? = some (.cells #[.int .i64 kh, .int .i64 kw, .int .i64 sh, .int .i64 sw, .int .i64 tp, .int .i64 lf, .int .i64 bt, .int .i64 rt] 33 (0, 0))) (c5 : w0.heap[B5]? = some (.cells #[.int .i64 u] 3 (0, 0))) (hb : ∀ b ∈ [B1, B2, B3, B4, B5], lo ≤ b ∧ b < hi) :
    It lo hi w0 (.func (.func 76) #[] #[.pointer (some ⟨B1, 0, none⟩), .pointer (some ⟨B2, 0, none⟩), .pointer (some ⟨B3, 0, none⟩), .pointer (some ⟨B4, 0, none⟩), .pointer (some ⟨B5, 0, none⟩)]) (tapL h w kw t u N) := by
  refine ⟨_, _, rfl, enters_of Try.func76 (by kernel_rfl) rfl, fun w' m k l J Jx W hW hJ hJx hY h0 => ?_⟩
  have b1 := hb B1 (by simp)
  have b2 := hb B2 (by simp)
  have b3 := hb B3 (by simp)
  have b4 := hb B4 (by simp)
  have b5 := hb B5 (by simp)
  rw [tapL_len] at hY
  refine (taps1_in m l B1 B2 B3 B4 B5 h w c kh kw sh sw tp lf bt rt t u N J Jx W hC hJ (fun pre x W1 hj hl => YieldAt.mono (hY pre x W1 hj hl) ?_)
    (cell_of c1 b1.1 b1.2 k hW) (cell_of c2 b2.1 b2.2 k hW) (cell_of c3 b3.1 b3.2 k hW) (cell_of c4 b4.1 b4.2 k hW) (cell_of c5 b5.1 b5.2 k hW) h0).mono ?_
  · rintro e W' (⟨h1, h2, h3⟩ | h1)
    · exact .inl ⟨h1, h2, h3.kept fun b hb' => hb b (List.mem_cons_of_mem _ hb')⟩
    · exact .inr h1
  · rintro e W' ⟨he, ⟨ys, rfl, hj⟩ | ⟨pre, ⟨j, hj1, rfl⟩, hj⟩⟩
    · exact ⟨he, .inl ⟨_, rfl, hj⟩⟩
    · exact ⟨he, .inr ⟨_, ⟨j, by rw [tapL_len]; exact hj1, tapL_take _ _ _ _ _ hj1⟩, hj⟩⟩
/-- What the listed blocks hold. -/
def Heaps (w : World) : List (Nat × Array Value × TypeId) → Prop
  | [] => True
  | (B, c, t) :: l => w.heap[B]? = some (.cells c t) ∧ Heaps w l
theorem heaps_of {w : World} : ∀ (l : List (Nat × Array Value × TypeId)), (∀ x ∈ l, w.heap[x.1]? = some (.cells x.2.1 x.2.2)) → Heaps w l
  | [], _ => trivial
  | (_, _, _) :: l, h => ⟨h _ List.mem_cons_self, heaps_of l fun x hx => h x (List.mem_cons_of_mem _ hx)⟩
theorem St.heaps {w0 w : World} {l : List (Nat × Array Value × TypeId)} (h : St w0 w l) : Heaps w l := heaps_of l fun x hx => (h.2 x hx).1
theorem tapsOf_no {h w c kh kw sh sw tp lf bt rt n e : Int} (he : coR h w c kh kw sh sw tp lf bt rt n = (0, 0, e)) (h2 : e ≠ 0) : tapsOf h w c kh kw sh sw tp lf bt rt n = [] := by unfold tapsOf; rw [he, if_neg (by simpa using h2)]
theorem tapsOf_ok {h w c kh kw sh sw tp lf bt rt n t u : Int} (he : coR h w c kh kw sh sw tp lf bt rt n = (t, u, 0)) : tapsOf h w c kh kw sh sw tp lf bt rt n = tapL h w kw t u (kh * kw).toNat := by unfold tapsOf; rw [he, if_pos rfl]
set_option maxHeartbeats 4000000 in
theorem taps_any (h w c kh kw sh sw tp lf bt rt n : Int) (W : World) :
    Calls Try.prog 63 #[.agg #[.int .i64 h, .int .i64 w, .int .i64 c], .agg #[.int .i64 kh, .int .i64 kw, .int .i64 sh, .int .i64 sw, .int .i64 tp, .int .i64 lf, .int .i64 bt, .int .i64 rt], .int .i64 n] W fun e w' => (∃ g lb, e = .returned (.func (.func g) #[] lb) ∧ It W.heap.size w'.heap.size w' (.func (.func g) #[] lb) (tapsOf h w c kh kw sh sw tp lf bt rt n)) ∧ Below W.heap.size W w' := by
  have hmf : ∀ (fn : Fn) (first cap : Array Value) (w : World), (Instr.makeFunc fn first cap).run Try.prog w = .ok (.func fn first cap) w := fun _ _ _ _ => rfl
  rcases coR_cases h w c kh kw sh sw tp lf bt rt n with ⟨e, he, h2⟩ | ⟨r, q, he, hf, hn, hc⟩
  · rw [tapsOf_no he (by omega)]
    have HC : Hid (coR h w c kh kw sh sw tp lf bt rt n = (0, 0, e)) := he
    have z1 : (e == 0) = false := by simp; omega
    clear he
    go_enter Try.func63, Try.ntmps63
    go_wp2_with fail
    refine (corner_any _ _ _ _ _ _ _ _ _ _ _ _ _).mono ?_
    rintro e w1 ⟨rfl, hb'⟩
    have s1 := (St.start W).new.new.call hb'
    clear hb'
    try simp only [World.size_setCell] at s1
    try simp only [World.size_alloc] at s1
    obtain ⟨c1, f1, zw1_1, c2, f2, zw1_2, -⟩ := s1.rules
    rw [HC.out]
    go_wp2
    have s2 := (s1.new (c := #[.int .i64 0]) (t := 3)).new (c := #[.int .i64 0]) (t := 3) |>.new (c := #[.int .i64 0]) (t := 3)
    simp only [World.size_alloc] at s2
    go_ret
    refine ⟨⟨_, _, rfl, ?_⟩, s2.below⟩
    obtain ⟨a1, a2, a3, a4, a5, -⟩ := s2.heaps
    exact it_taps (N := 0) (.inl rfl) a1 a5 a3 a4 a2 (fun b hb => by have := s1.size; simp at hb ⊢; omega)
  · rw [tapsOf_ok hc]
    have HC : Hid (coR h w c kh kw sh sw tp lf bt rt n = (n / q * sh - tp, n % q * sw - lf, 0)) := hc
    have hcor := cor_of hf hn
    have HN : Hid (Cor h w kh kw (n / q * sh - tp) (n % q * sw - lf)) := hcor
    have k1 := hcor.2.2.2.1
    have k2 := hcor.2.2.2.2.1
    clear he hf hn hc hcor
    obtain ⟨t, ht⟩ : ∃ t, n / q * sh - tp = t := ⟨_, rfl⟩
    obtain ⟨u, hu⟩ : ∃ u, n % q * sw - lf = u := ⟨_, rfl⟩
    rw [ht, hu] at HC HN
    rw [ht, hu]
    clear ht hu
    obtain ⟨p1, p2⟩ := mul_bd k1.1 k1.2 k2.1 k2.2
    obtain ⟨p, hp⟩ : ∃ p, kh * kw = p := ⟨_, rfl⟩
    have HP : Hid (kh * kw = p) := hp
    rw [hp] at p1 p2
    go_enter Try.func63, Try.ntmps63
    go_wp2_with fail
    refine (corner_any _ _ _ _ _ _ _ _ _ _ _ _ _).mono ?_
    rintro e w1 ⟨rfl, hb'⟩
    have s1 := (St.start W).new.new.call hb'
    clear hb'
    try simp only [World.size_setCell] at s1
    try simp only [World.size_alloc] at s1
    obtain ⟨c1, f1, zw1_1, c2, f2, zw1_2, -⟩ := s1.rules
    rw [HC.out]
    go_wp2
    have e : p = ((kh * kw).toNat : Int) := by rw [HP.out]; omega
    have s2 := (s1.new (c := #[.int .i64 t]) (t := 3)).new (c := #[.int .i64 u]) (t := 3) |>.new (c := #[.int .i64 p]) (t := 3)
    simp only [World.size_alloc] at s2
    go_ret
    refine ⟨⟨_, _, rfl, ?_⟩, s2.below⟩
    obtain ⟨a1, a2, a3, a4, a5, -⟩ := s2.heaps
    exact it_taps (.inr ⟨HN.out, rfl⟩) (by rw [← e]; exact a1) a5 a3 a4 a2 (fun b hb => by have := s1.size; simp at hb ⊢; omega)
theorem equalIn_func_nil (w : World) (d g : Nat) (lb : Array Value) : (Op.equalIn (d + 1) 121 (.func (.func g) #[] lb) .nilFunc).run Try.prog w = .ok false w := by
  simp [Op.equalIn, run_underlying Try.underlying121]
theorem func_not_nil (g : Nat) (lb : Array Value) (w : World) : (binOp .eql 121 (.func (.func g) #[] lb) .nilFunc).run Try.prog w = .ok (.bool false) w := by
  simp only [binOp]
  simp [Op.equal, Op.maxDepth, equalIn_func_nil w 9999 g lb]
theorem spotsOf_no {h w c kh kw sh sw tp lf bt rt e : Int} (he : ouR h w c kh kw sh sw tp lf bt rt = (0, 0, e)) : spotsOf h w c kh kw sh sw tp lf bt rt = [] := by unfold spotsOf; rw [he]; rfl
theorem spotsOf_ok {h w c kh kw sh sw tp lf bt rt : Int} {r q : Nat} {e : Int} (he : ouR h w c kh kw sh sw tp lf bt rt = ((r : Int), (q : Int), e)) : spotsOf h w c kh kw sh sw tp lf bt rt = spotL q (r * q) := by
  unfold spotsOf
  rw [he]
  have : ((r : Int) * (q : Int)).toNat = r * q := by rw [← Int.natCast_mul]; rfl
  simp only [this]
end Go.Proofs.Ytkdnpkpmlckmnaa

/- Rows of ints: what is read of them, what a call owns, what stays behind a call; append over them. -/
namespace Go.Proofs.Ytkdnpkpmlckmnaa.Nx
open Go.ChangeShapes Go.WideShapes Go.ChangeAt Go.RowKit
/-- What a slice of ints reads as. -/
def Row (w : World) (a : Option Addr) (len cap : Nat) (zs : List Int) : Prop :=
  zs.length = len ∧ len ≤ cap ∧ cap ≤ maxLen ∧ (a = none → cap = 0) ∧ ∀ x, a = some x → ∀ i, i < len → w.cell? (x.add i) = some (.int .i64 (zs.getD i 0))
theorem Row.mono {w w' : World} {a : Option Addr} {len cap : Nat} {zs : List Int} (h : Row w a len cap zs) (k : ∀ x v, w.cell? x = some (.int .i64 v) → w'.cell? x = some (.int .i64 v)) : Row w' a len cap zs :=
  ⟨h.1, h.2.1, h.2.2.1, h.2.2.2.1, fun x hx i hi => k _ _ (h.2.2.2.2 x hx i hi)⟩
theorem Row.below {w w' : World} {a : Option Addr} {len cap : Nat} {zs : List Int} (h : Row w a len cap zs) (k : Below w.heap.size w w') : Row w' a len cap zs :=
  h.mono fun x _ hx => (k.cell (World.block_lt_of_cell? w x hx)).trans hx
/-- What the call made, from block 'base' on, and may write. -/
def Own (w : World) (base : Nat) (v : Value) (zs : List Int) : Prop := w.ownsRow base 3 1 v zs.length (zs.map (Value.int .i64))
theorem Own.shape {w : World} {base : Nat} {v : Value} {zs : List Int} (h : Own w base v zs) :
    (v = .slice none 0 0 ∧ zs = []) ∨ ∃ g cap, v = .slice (some ⟨g, 0, none⟩) zs.length cap ∧ base ≤ g ∧ g < w.heap.size ∧ zs.length ≤ cap ∧ cap ≤ maxLen ∧
      (∀ i, i < zs.length → w.cell? ⟨g, i, none⟩ = some (.int .i64 (zs.getD i 0))) ∧ ∀ i, w.frozen? ⟨g, i, none⟩ = false := by
  obtain ⟨h1, h2⟩ := h
  rcases h2 with ⟨rfl, h0⟩ | ⟨g, cap, cur, rfl, hg, hh, hn, hm, hs, ht⟩
  · exact .inl ⟨rfl, List.eq_nil_of_length_eq_zero h0⟩
  · refine .inr ⟨g, cap, rfl, hg, lt_of_heap hh, hn, hm, fun i hi => ?_, fun i => ?_⟩
    · have hc : cur[i]? = some (.int .i64 (zs.getD i 0)) := by
        have : (cur.toList.take (zs.length * 1))[i]? = some (.int .i64 (zs.getD i 0)) := by rw [ht]; simp [List.getD, hi]
        rw [List.getElem?_take, if_pos (by omega)] at this
        simpa using this
      simp [World.cell?, hh, hc]
    · simp only [World.frozen?, hh]; simp
theorem Own.row {w : World} {base : Nat} {v : Value} {zs : List Int} (h : Own w base v zs) : ∃ a cap, v = .slice a zs.length cap ∧ Row w a zs.length cap zs ∧ ∀ x, a = some x → base ≤ x.block ∧ x.block < w.heap.size := by
  rcases h.shape with ⟨rfl, rfl⟩ | ⟨g, cap, rfl, hg, hlt, hn, hm, hc, _⟩
  · exact ⟨none, 0, rfl, ⟨rfl, by simp, by simp, fun _ => rfl, fun x hx => by cases hx⟩, fun x hx => by cases hx⟩
  · refine ⟨some ⟨g, 0, none⟩, cap, rfl, ⟨rfl, hn, hm, fun h => (by cases h), fun x hx i hi => ?_⟩, fun x hx => ?_⟩
    · cases hx; rw [Addr.add_lit, Nat.zero_add]; exact hc i hi
    · cases hx; exact ⟨hg, hlt⟩
theorem Own.block {w : World} {base : Nat} {v : Value} {zs : List Int} (h : Own w base v zs) {b : Nat} (hb : v.ownBlock = some b) : base ≤ b := by
  rcases h.shape with ⟨rfl, _⟩ | ⟨g, cap, rfl, hg, _⟩
  · simp [Value.ownBlock] at hb
  · obtain rfl : g = b := by simpa [Value.ownBlock] using hb
    exact hg
theorem Own.below {w w' : World} {base : Nat} {v : Value} {zs : List Int} (h : Own w base v zs) (k : Below w.heap.size w w') : Own w' base v zs := by
  refine World.ownsRow.kept (row := none) h ⟨k.os, k.tape, k.output, k.size, fun i hi _ => k.block i hi⟩ ?_
  rcases h.shape with ⟨rfl, _⟩ | ⟨g, cap, rfl, _⟩
  · exact .inl rfl
  · exact .inr (by simp [Value.ownBlock])
theorem Own.base {w : World} {b c : Nat} {v : Value} {zs : List Int} (h : Own w b v zs) (k : c ≤ b) : Own w c v zs := by
  refine ⟨h.1, ?_⟩
  rcases h.2 with h | ⟨g, cap, cur, h1, h2, h3⟩
  · exact .inl h
  · exact .inr ⟨g, cap, cur, h1, Nat.le_trans k h2, h3⟩
theorem own_none (w : World) (base : Nat) : Own w base (.slice none 0 0) [] := World.ownsRow_nil _ _ _ _
theorem own_lit (w : World) (base : Nat) (zs : List Int) (hm : zs.length ≤ maxLen) (hw : base ≤ w.heap.size) :
    Own (w.alloc (.cells (zs.map (Value.int .i64)).toArray 3)) base (.slice (some ⟨w.heap.size, 0, none⟩) zs.length zs.length) zs := by
  have := World.ownsRow_lit (base := base) (e := 3) (size := 1) w (zs.map (Value.int .i64)).toArray zs.length hw hm (by simp)
  simp only at this
  exact this
theorem Try.infoI : (Try.prog.info? 3).map (fun i => (i.zero, i.size, i.bytes)) = some (some (.int .i64 0), 1, 8) := by kernel_rfl
/-- 'append' of some ints to what the call owns, from whatever slice. -/
theorem wpList_app {w : World} {ops : Array Oper} {rest : List Oper} {o : Oper} {a : Act} {Q : Exit → Act → World → Prop} (hgd : o.guard = none) (s x : Operand)
    (ho : o.op = .call { callee := .builtin .append, args := #[s, x], argTypes := #[93, 93] })
    (base : Nat) (v : Value) (xs ys : List Int) (hs : a.eval s = v) (hown : Own w base v xs) (ad : Addr) (m c : Nat) (hx : a.eval x = .slice (some ad) m c) (hy : Row w (some ad) m c ys)
    (hlen : xs.length + ys.length ≤ 10000000) (hbase : base ≤ w.heap.size)
    (h : ∀ v' w', Own w' base v' (xs ++ ys) → w.grownBy w' v.ownBlock → wpList Try.prog ops Q rest (a.put o.dst v') w') : wpList Try.prog ops Q (o :: rest) a w := by
  obtain ⟨i0, hi, hz0, hz1, hz2⟩ := info_parts Try.infoI
  obtain ⟨hl, hc, hm, hn, hcell⟩ := hy
  refine wpList_append_own _ hgd s x _ ho base 3 i0 (.int .i64 0) 1 8 Try.underlying93 hi hz0 hz1 hz2 rfl (by decide) v xs.length _ hs hown ad m c (ys.map (Value.int .i64)) hx (by simp [hl]) ?_ (ints_oneCell _ _) ?_ (by omega) hbase ?_
  · intro j u hj
    have hj' : j < m := by
      have := (List.getElem?_eq_some_iff.1 hj).1
      simpa [hl] using this
    rw [hcell ad rfl j hj']
    simp [List.getD, show j < ys.length by omega] at hj ⊢
    exact hj
  · unfold maxLen; omega
  · intro v' w' h1 h2 h3
    refine h v' w' ?_ h2
    unfold Own
    rw [List.length_append, hl, List.map_append]
    exact h1
/-- Ints laid in a block of their own, ahead of an append. -/
theorem row_one (w : World) (z : Int) : Row (w.alloc (.cells #[.int .i64 z] 3)) (some ⟨w.heap.size, 0, none⟩) 1 1 [z] := by
  refine ⟨rfl, Nat.le_refl _, by unfold maxLen; omega, fun h => (by cases h), fun x hx i hi => ?_⟩
  cases hx
  obtain rfl : i = 0 := by omega
  simp [Addr.add]
theorem Own.alloc {w : World} {base : Nat} {v : Value} {zs : List Int} (h : Own w base v zs) (o : Obj) : Own (w.alloc o) base v zs := h.below ((Below.refl _ _).alloc (Nat.le_refl _) _)
end Go.Proofs.Ytkdnpkpmlckmnaa.Nx

/- What the law's own pairs and spots collect of an iterator: the first so many of what it gives, in a new slice. -/
namespace Go.Proofs.Ytkdnpkpmlckmnaa.Nx
open Go.ChangeShapes Go.WideShapes Go.ChangeAt Go.RowKit Go.Shelf
attribute [local go_sem] Oper.semAt_some
def flat (l : List (Int × Int)) : List Int := l.flatMap fun p => [p.1, p.2]
theorem flat_len (l : List (Int × Int)) : (flat l).length = 2 * l.length := by
  induction l with
  | nil => rfl
  | cons x r ih => simp [flat] at ih ⊢; omega
theorem flat_snoc (l : List (Int × Int)) (x : Int × Int) : flat (l ++ [x]) = flat l ++ [x.1, x.2] := by simp [flat]
theorem tapsOf_len (h w c kh kw sh sw tp lf bt rt n : Int) : (tapsOf h w c kh kw sh sw tp lf bt rt n).length ≤ 1024 := by
  rcases coR_cases h w c kh kw sh sw tp lf bt rt n with ⟨e, he, h2⟩ | ⟨r, q, he, hf, hn, hc⟩
  · rw [tapsOf_no he (by omega)]; simp
  · rw [tapsOf_ok hc, tapL_len]
    obtain ⟨-, ⟨k1, k2, -⟩, -⟩ := hf
    have := Int.mul_le_mul k1.2 k2.2 (by omega) (by omega)
    omega
theorem spotsOf_len (h w c kh kw sh sw tp lf bt rt : Int) : (spotsOf h w c kh kw sh sw tp lf bt rt).length ≤ 1440000 := by
  rcases ouR_cases h w c kh kw sh sw tp lf bt rt with ⟨e, he, h2⟩ | ⟨r, q, he, hf⟩
  · rw [spotsOf_no he]; simp
  · unfold spotsOf
    rw [he, spotL_len]
    obtain ⟨-, -, r1, q1, -⟩ := hf
    have := Int.mul_le_mul r1.2 q1.2 (by omega) (by omega)
    simp only; omega
theorem ownFrom_mid {lo hi : Nat} {w : World} {β : Type} : OwnFrom hi (fun (_ : β) W => Mid lo hi w W) := fun _ _ _ _ hs hg hr => hs.trans (Mid.grown hg fun b e => .inr (hr b e).1)
theorem ownFrom_size {B n : Nat} {β : Type} : OwnFrom B (fun (_ : β) (W : World) => n ≤ W.heap.size) := fun _ _ _ _ hs hg _ => Nat.le_trans hs hg.size
theorem ownFrom_pure' {B : Nat} {β : Type} (p : β → Prop) : OwnFrom B (fun (s : β) (_ : World) => p s) := fun _ _ _ _ hs _ _ => hs
/-- 'out = append(out, ..)' where out's variable is box B, ahead of what is kept, and its row lies beyond. -/
theorem appended {W w1 : World} {lo hi n0 B : Nat} {v v' : Value} {k m : Nat} {xs ys : List Value} {tmp : Obj}
    (hv : Boxed W B 93 v) (hrow : W.ownsRow hi 3 1 v k xs) (hhi : hi ≤ W.heap.size) (hB : n0 ≤ B ∧ (B < lo ∨ hi ≤ B)) (hn : n0 ≤ hi)
    (hown' : w1.ownsRow hi 3 1 v' m ys) (hgrow : (W.alloc tmp).grownBy w1 v.ownBlock) :
    Boxed w1 B 93 v ∧ Boxed (w1.setCell ⟨B, 0, none⟩ v') B 93 v' ∧ (w1.setCell ⟨B, 0, none⟩ v').ownsRow hi 3 1 v' m ys ∧ KeepsOthers W (w1.setCell ⟨B, 0, none⟩ v') ∧
      Mid lo hi W (w1.setCell ⟨B, 0, none⟩ v') ∧ Below n0 W (w1.setCell ⟨B, 0, none⟩ v') ∧ (∀ b, b < hi → b ≠ B → ∀ t u, Boxed W b t u → Boxed (w1.setCell ⟨B, 0, none⟩ v') b t u) ∧
      (∀ b t u, b ≠ B → t ≠ 3 → Boxed W b t u → Boxed (w1.setCell ⟨B, 0, none⟩ v') b t u) := by
  have hv1 : Boxed w1 B 93 v := (hv.alloc tmp).kept hgrow (hv.not_row (by decide) hrow)
  have hr : ∀ j, v.ownBlock = some j → hi ≤ j := fun j ej => by
    rcases hrow.2 with ⟨rfl, _⟩ | ⟨g, cap, cur, rfl, hb, _, _⟩
    · simp [Value.ownBlock] at ej
    · obtain rfl : g = j := by simpa [Value.ownBlock] using ej
      exact hb
  refine ⟨hv1, hv1.set v', hown'.kept (grownBy_setCell' w1 B v') (.inr (hv1.not_row (by decide) hown').symm), ?_, ?_, ?_, ?_, ?_⟩
  · refine ((KeepsOthers.alloc W tmp).trans (KeepsOthers.of_grownBy hgrow fun j o ej hj => ?_)).trans (KeepsOthers.setCell _ _ _)
    rcases (hrow.alloc tmp).2 with ⟨rfl, _⟩ | ⟨g, cap, cur, rfl, _, hgb, _⟩
    · simp [Value.ownBlock] at ej
    · obtain rfl : g = j := by simpa [Value.ownBlock] using ej
      rw [hgb] at hj; cases hj; rfl
  · exact ((Mid.later ((Below.refl _ W).alloc (Nat.le_refl _) tmp)).trans (Mid.grown hgrow fun b e => .inr (hr b e))).trans (Mid.set _ hB.2)
  · exact (((Below.refl n0 W).alloc (by omega) tmp).grown hgrow (by simp; omega) fun j ej => (by have := hr j ej; omega)).setCell (p := ⟨B, 0, none⟩) hB.1 v'
  · intro b hb hne t u hbx
    refine (((hbx.alloc tmp).kept hgrow fun e => ?_)).other hne v'
    have := hr b e.symm; omega
  · intro b t u hne ht hbx
    refine (((hbx.alloc tmp).kept hgrow ((hbx.not_row ht hrow)))).other hne v'
theorem ownsRow_slice {W : World} {base : Nat} {e : TypeId} {size : Nat} {v : Value} {k : Nat} {xs : List Value} (h : W.ownsRow base e size v k xs) : ∃ a cap, v = .slice a k cap := by
  rcases h.2 with ⟨rfl, rfl⟩ | ⟨g, cap, _, rfl, _⟩
  · exact ⟨none, 0, rfl⟩
  · exact ⟨_, cap, rfl⟩
theorem two_new_cells (W : World) (a b : Value) (t : TypeId) : ∀ j u, [a, b][j]? = some u → (W.alloc (.cells #[a, b] t)).cell? ((⟨W.heap.size, 0, none⟩ : Addr).add j) = some u := by
  intro j u hj
  match j, hj with
  | 0, hj => simp [Addr.add] at hj ⊢; exact hj
  | 1, hj => simp [Addr.add] at hj ⊢; exact hj
  | j + 2, hj => simp at hj
theorem list_cut {α : Type} {ys ini : List α} {x : α} {k : Nat} (h : ini ++ [x] = ys.take k) : ini = ys.take ini.length := by
  have h2 := congrArg (List.take ini.length) h
  rw [List.take_left' rfl, List.take_take] at h2
  have h3 := congrArg List.length h
  simp at h3
  rw [Nat.min_eq_left (by omega)] at h2
  exact h2
end Go.Proofs.Ytkdnpkpmlckmnaa.Nx

/- What places of package terms returns: the places of a channel's terms at a position. -/
namespace Go.Proofs.Ytkdnpkpmlckmnaa
open Go.ChangeShapes Go.WideShapes Go.ChangeAt Go.RowKit Go.Shelf
set_option linter.unusedVariables false
def plL (k C ch h w kw t u : Int) (n : Nat) : List Int := (List.range n).map fun (i : Nat) => plA k C ch h w kw t u i
theorem plL_len (k C ch h w kw t u : Int) (n : Nat) : (plL k C ch h w kw t u n).length = n := by simp [plL]
theorem plL_succ (k C ch h w kw t u : Int) (n : Nat) : plL k C ch h w kw t u (n + 1) = plL k C ch h w kw t u n ++ [plA k C ch h w kw t u n] := by simp [plL, List.range_succ]
theorem boxed_below {w w' : World} {B : Nat} {t : TypeId} {v : Value} (h : Boxed w B t v) (k : Below w.heap.size w w') : Boxed w' B t v := (k.block B h.lt).trans h
set_option maxRecDepth 100000 in
set_option maxHeartbeats 4000000 in
theorem places_1 (a b m kh kw sh sw tp lf bt rt : Int) (wa : Option Addr) (lw wc : Nat) (ba : Option Addr) (lb bc : Nat) (sm ss um us z p lo hi h w c H V C : Int) (r : Nat) (W : World) (hr : W.heap[r]? = some (.cells #[.int .i64 1, .int .i64 a, .int .i64 b, .int .i64 m, .int .i64 kh, .int .i64 kw, .int .i64 sh, .int .i64 sw, .int .i64 tp, .int .i64 lf, .int .i64 bt, .int .i64 rt, .slice wa lw wc, .slice ba lb bc, .int .i64 sm, .int .i64 ss, .int .i64 um, .int .i64 us, .int .i64 z, .int .i64 p, .int .i64 lo, .int .i64 hi, .int .i64 h, .int .i64 w, .int .i64 c, .int .i64 H, .int .i64 V, .int .i64 C] 87 (0, 0))) (s : Sit 1 kh kw sh sw tp lf bt rt h w c H V C lw lb) (ch at' t u : Int) (st : Nat) (hst : stR 1 kh kw h w c = (st : Int)) :
    Calls Try.prog 49 #[.pointer (some ⟨r, 0, none⟩), .int .i64 ch, .int .i64 at'] W fun e w' => (∃ v, e = .returned v ∧ Nx.Own w' W.heap.size v (plL 1 c ch h w kw t u st)) ∧ Below W.heap.size W w' := by
  obtain ⟨i0, hi0, hz0, hz1, hz2⟩ := info_parts Nx.Try.infoI
  have hL : Hid (∀ w', Below W.heap.size W w' → Calls Try.prog 61 #[.pointer (some ⟨r, 0, none⟩)] w' fun e w'' => e = .returned (.int .i64 st) ∧ ∃ m, w'' = w'.drewN m) := fun w' hb => by rw [← hst]; exact tlen_any 1 a b m kh kw sh sw tp lf bt rt wa lw wc ba lb bc sm ss um us z p lo hi h w c H V C r w' ((hb.block r (lt_of_heap hr)).trans hr) s
  have hlen : st ≤ 512 := by have := s.2.2.2.2.2.2.2.2.2; rw [hst] at this; omega
  have hrc : Hid (∀ w', Below W.heap.size W w' → ∀ i, w'.cell? ⟨r, i, none⟩ = (#[.int .i64 1, .int .i64 a, .int .i64 b, .int .i64 m, .int .i64 kh, .int .i64 kw, .int .i64 sh, .int .i64 sw, .int .i64 tp, .int .i64 lf, .int .i64 bt, .int .i64 rt, .slice wa lw wc, .slice ba lb bc, .int .i64 sm, .int .i64 ss, .int .i64 um, .int .i64 us, .int .i64 z, .int .i64 p, .int .i64 lo, .int .i64 hi, .int .i64 h, .int .i64 w, .int .i64 c, .int .i64 H, .int .i64 V, .int .i64 C] : Array Value)[i]?) := fun w' hb => (cells_at ((hb.block r (lt_of_heap hr)).trans hr)).1
  have hrz : r < W.heap.size := lt_of_heap hr
  clear hst s
  have s0 := (St.start W).new (c := #[.pointer (some ⟨r, 0, none⟩)]) (t := 107)
  refine (callsIn_wide (n := 3)).1 ?_
  refine callsIn_of_wp_marks Try.func49 rfl trivial ?_ rfl
  simp only [Try.ntmps49, List.size_toArray, List.length_cons, List.length_nil, Nat.reduceAdd, Nat.reduceSub, Array.replicate_succ, Array.replicate_zero, List.push_toArray, List.append_toArray, List.nil_append, List.cons_append]
  refine wpIn_wide.2 ?_
  go_wp2_with fail
  refine (hL.out _ s0.below).mono ?_
  rintro e w1 ⟨rfl, m, rfl⟩
  have s1 := s0.call (dbel _ m)
  obtain ⟨w1, hw1⟩ : ∃ w1, (W.alloc (.cells #[.pointer (some ⟨r, 0, none⟩)] 107)).drewN m = w1 := ⟨_, rfl⟩
  rw [hw1] at s1 ⊢
  have hz : W.heap.size + 1 = w1.heap.size := by rw [← hw1]; simp
  clear hw1
  obtain ⟨c1, f1, z1, -⟩ := s1.rules
  go_wp2_with (at_make; refine wpList_make_own _ rfl _ _ 93 rfl w1.heap.size 3 i0 (.int .i64 0) 1 Try.underlying93 hi0 hz0 hz1 .i64 .i64 _ st rfl rfl rfl (by rw [hz2]; omega) (by unfold maxLen; omega) (by omega) ?_; intro w2 own2 gr2; have s2 := s1.call ((Below.refl w1.heap.size w1).grown gr2 (Nat.le_refl _) (fun b hb => by cases hb)); obtain ⟨c1', f1', z1', -⟩ := s2.rules; have hq := hrc.out _ s2.below; have zr := Nat.lt_of_lt_of_le hrz s2.below.size)
  refine (hL.out _ (s2.skip _).below).mono ?_
  rintro e w3 ⟨rfl, m', rfl⟩
  have b3 : Boxed (w2.alloc (.cells #[.slice (some ⟨w1.heap.size, 0, none⟩) 0 st] 93)) w2.heap.size 93 (.slice (some ⟨w1.heap.size, 0, none⟩) 0 st) := heap_alloc_new w2 _
  have o3 : Nx.Own (w2.alloc (.cells #[.slice (some ⟨w1.heap.size, 0, none⟩) 0 st] 93)) w1.heap.size (.slice (some ⟨w1.heap.size, 0, none⟩) 0 st) [] := Nx.Own.alloc (show Nx.Own w2 w1.heap.size (.slice (some ⟨w1.heap.size, 0, none⟩) 0 st) [] from own2) _
  have p3 : Boxed (w2.alloc (.cells #[.slice (some ⟨w1.heap.size, 0, none⟩) 0 st] 93)) W.heap.size 107 (.pointer (some ⟨r, 0, none⟩)) := boxed_below s2.h1 (bal _ _)
  have d3 := (s2.skip (.cells #[.slice (some ⟨w1.heap.size, 0, none⟩) 0 st] 93)).below
  have e3 := dbel (w2.alloc (.cells #[.slice (some ⟨w1.heap.size, 0, none⟩) 0 st] 93)) m'
  have b4 := boxed_below b3 e3
  have o4 := o3.below e3
  have p4 := boxed_below p3 e3
  have d4 := d3.trans (e3.mono d3.size)
  obtain ⟨w4, hw4⟩ : ∃ w4, (w2.alloc (.cells #[.slice (some ⟨w1.heap.size, 0, none⟩) 0 st] 93)).drewN m' = w4 := ⟨_, rfl⟩
  rw [hw4] at b4 o4 p4 d4 ⊢
  have hz2' : w2.heap.size < w4.heap.size := by rw [← hw4]; simp
  have gz := gr2.size
  have B4 : Hid (Boxed _ _ _ _) := b4
  have O4 : Hid (Nx.Own _ _ _ _) := o4
  have P4 : Hid (Boxed _ _ _ _) := p4
  have D4 : Hid (Below _ _ _) := d4
  clear hw4 b3 o3 p3 d3 e3 own2 gr2 s0 s1 s2 c1 f1 c1' f1' hq b4 o4 p4 d4 z1 z1'
  go_wp2
  go_loopw [25] (fun i wr => ∃ y : Nat, y ≤ st ∧ i = .int .i64 y ∧ ∃ v, Boxed wr w2.heap.size 93 v ∧ Nx.Own wr w1.heap.size v (plL 1 c ch h w kw t u y) ∧ Boxed wr W.heap.size 107 (.pointer (some ⟨r, 0, none⟩)) ∧ Below W.heap.size W wr ∧ w4.heap.size ≤ wr.heap.size) (fun i _ => st - (intOf i).toNat)
  case atStart => exact ⟨0, Nat.zero_le _, rfl, _, B4.out, O4.out, P4.out, D4.out, Nat.le_refl _⟩
  case round =>
    obtain ⟨y, hy, rfl, v, hv, hown, hp, hb, hwz⟩ := hrel
    obtain ⟨a', cap, rfl⟩ := Nx.ownsRow_slice hown
    have hc := hv.cell
    have hf := hv.frozen
    have hbs := hb.size
    have HL : Hid ((plL 1 c ch h w kw t u y).length = y) := plL_len _ _ _ _ _ _ _ _ _
    have HS : Hid (plL 1 c ch h w kw t u (y + 1) = plL 1 c ch h w kw t u y ++ [(y : Int)]) := plL_succ _ _ _ _ _ _ _ _ _
    clear B4 O4 P4 D4
    by_cases hlt : y < st
    · go_wp2_with (at_builtin; refine Nx.wpList_app rfl (.tmp 28) (.tmp 30) rfl w1.heap.size _ _ [(y : Int)] rfl (hown.alloc _) _ _ _ rfl (Nx.row_one _ _) (by rw [HL.out]; simp; omega) (by simp; omega) ?_; intro v' w5 own' gr'; have own5 : w5.ownsRow w1.heap.size 3 1 v' (y + 1) ((plL 1 c ch h w kw t u (y + 1)).map (Value.int .i64)) := (by have q := own'; unfold Nx.Own at q; rw [← HS.out, plL_len] at q; exact q); obtain ⟨a5, cap5, rfl⟩ := Nx.ownsRow_slice own5; obtain ⟨hv1, hv2, hr2, hk2, hm2, hb2, -, hx2⟩ := Nx.appended (lo := 0) (n0 := W.heap.size) hv hown (by omega) ⟨by omega, .inr (by omega)⟩ (by omega) own5 gr'; have hc1 := hv1.cell; have hf1 := hv1.frozen)
      go_roundw
      case rel => exact ⟨y + 1, by omega, by go_num, _, hv2, by unfold Nx.Own; rw [plL_len]; exact hr2, hx2 _ _ _ (by omega) (by decide) hp, hb.trans hb2, Nat.le_trans hwz hb2.size⟩
      case measure => simp [intOf]; omega
    · obtain rfl : y = st := by omega
      go_wp2
      exact ⟨.slice a' _ cap, by simp [results, Try.f49, go_sem], ⟨_, rfl, hown.base (by omega)⟩, hb⟩
end Go.Proofs.Ytkdnpkpmlckmnaa

/- A region that draws its order within a round of a loop over an iterator: it goes as outside of one; 'append' of one int as a step of such a region. -/
namespace Go.Proofs.Ytkdnpkpmlckmnaa
open Go.ChangeShapes Go.WideShapes Go.ChangeAt Go.RowKit Go.Shelf
set_option linter.unusedVariables false
section
variable {F : Fence} {n l : Nat} {P : Program} {ops : Array Oper} {md : Region.Mode} {Q : Exit → Act → World → Prop}
def noDefer (ops : Array Oper) : Bool := ops.toList.all fun o => match o.op with | .defer _ => false | _ => true
theorem noDefer_at (h : noDefer ops = true) {i : Nat} {o : Oper} (ho : ops[i]? = some o) : ∀ c, o.op ≠ .defer c := by
  intro c e
  have := List.all_eq_true.1 h o (Array.mem_toList_iff.2 (Array.mem_of_getElem? ho))
  rw [e] at this
  cases this
theorem op_round (h : noDefer ops = true) (hro : F.round = none) {i : Nat} {K K' : Act → World → Prop} {a : Act} {w : World} (hK : ∀ a w, K a w → K' a w) (g : wpOpIn F n P ops Q i K a w) : wpOpIn (F.inRound l) n P ops Q i K' a w := by
  refine wpOpIn_mono hK ?_
  unfold wpOpIn at g ⊢
  cases ho : ops[i]? with
  | none => rw [ho] at g; exact g
  | some o =>
    rw [ho] at g
    simp only at g ⊢
    split at g
    · rename_i hw
      rw [if_pos hw]
      unfold Oper.wpIn at g ⊢
      rw [Oper.semAt_eq _ _ _ (noDefer_at h ho)] at g ⊢
      exact g
    · rename_i hw
      rw [if_neg hw]
      exact g
theorem any_round (h : noDefer ops = true) (hro : F.round = none) : ∀ (fuel : Nat) (listed : Array Bool) (a : Act) (w : World), wpAnyIn F n P md ops Q fuel listed a w → wpAnyIn (F.inRound l) n P md ops Q fuel listed a w
  | 0, _, _, _, g => g
  | fuel + 1, _, _, _, g => ⟨g.1, fun i hi => op_round h hro (fun a w => any_round h hro fuel _ a w) (g.2 i hi)⟩
theorem region_round {id : Nat} {a : Act} {w : World} (h : noDefer ops = true) (hro : F.round = none) (hm : P.follows .mixedOrders = true) (g : wpAnyIn F n P .any ops Q ops.size (Array.replicate ops.size false) a w.drew) : (Code.region id ops true).wpIn (F.inRound l) n P Q a w :=
  wpIn_region_any hm (any_round h hro _ _ _ _ g)
end
/-- 'append' of one int, a step of a region that draws, and where the answer lies. -/
theorem stepIn_app1 {F : Fence} {n : Nat} {ops : Array Oper} {o : Oper} {a : Act} {w : World} {K : Act → World → Prop} {Q : Exit → Act → World → Prop} {E : Prop}
    (hg : o.guard = none) (s x : Operand) (hop : o.op = Op.call { callee := Callee.builtin Builtin.append, args := #[s, x], argTypes := #[93, 93] })
    (base : Nat) (v : Value) (l : List Int) (hs : a.eval s = v) (hown : Nx.Own w base v l) (ad : Addr) (p : Int) (hx : a.eval x = .slice (some ad) 1 1)
    (hc : ∀ j u, [Value.int .i64 p][j]? = some u → w.cell? (ad.add j) = some u) (b1 : l.length + 1 ≤ 10000000) (b3 : base ≤ w.heap.size)
    (hK : ∀ v' w', Nx.Own w' base v' (l ++ [p]) → w.grownBy w' v.ownBlock → (v'.ownBlock = v.ownBlock ∨ v'.ownBlock = some w.heap.size) → K (a.put o.dst v') w') :
    if Region.wanted o (yielded ops a.tmps) = true then Oper.wpIn F n Try.prog o a w K Q else E := by
  have hw : Region.wanted o (yielded ops a.tmps) = true := by simp [Region.wanted, hg]
  rw [if_pos hw]
  obtain ⟨i0, hi, hz0, hz1, hz2⟩ := info_parts Nx.Try.infoI
  obtain ⟨v', w', hrun, r1, r2, -, r4⟩ := run_append_own_at (P := Try.prog) w base 93 o.type 3 i0 (.int .i64 0) 1 8 Try.underlying93 hi hz0 hz1 hz2 rfl (by decide) v l.length _ hown ad 1 1 [.int .i64 p] rfl hc (by simp [Value.oneCell']) (by unfold maxLen; omega) (by omega) b3
  unfold Oper.wpIn
  refine ⟨?_, ?_⟩
  · simp [Oper.about, hop, resolve, Target.leads, Sem.run_pure]
  · rw [Oper.semAt_plain F _ _ (by rw [hop]; intro c hc'; cases hc')]
    simp [execOp, hop, resolve, invoke, builtin, hs, hx, hrun, Result.andThen]
    exact hK v' w' (by unfold Nx.Own; rw [List.length_append, List.map_append]; exact r1) r2 r4
theorem one_cell (W : World) (a : Value) (t : TypeId) : ∀ j u, [a][j]? = some u → (W.alloc (.cells #[a] t)).cell? ((⟨W.heap.size, 0, none⟩ : Addr).add j) = some u := by
  intro j u hj
  match j, hj with
  | 0, hj => simp [Addr.add] at hj ⊢; exact hj
  | j + 1, hj => simp at hj
end Go.Proofs.Ytkdnpkpmlckmnaa
