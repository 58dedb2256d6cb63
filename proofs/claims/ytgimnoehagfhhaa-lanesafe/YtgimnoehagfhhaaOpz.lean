/- Readings whose every list is within the reach: slices of integers, and slices of structs that hold slices, opened with that. -/
import Derived.Test.YtgimnoehagfhhaaOpo
import Derived.SizedLaws
namespace Go.Proofs.Ytgimnoehagfhhaa
open Go.ChangeShapes Go.WideShapes Go.ChangeAt Go.RowKit Go.Deep
/-- Each list of a reading is within the reach. -/
def Sz {H : Type} (t : TypeId) (d : DataW H) : Prop := ∀ n ∈ d.weights Try.prog t, n ≤ reachBytes
theorem weightsEach_mem {H : Type} : ∀ {ts : List TypeId} {ds : List (DataW H)} {n : Nat}, n ∈ DataW.weightsEach Try.prog ts ds → ∃ (j : Nat) (t : TypeId) (d : DataW H), ts[j]? = some t ∧ ds[j]? = some d ∧ n ∈ d.weights Try.prog t
  | t :: ts, d :: ds, n, h => by
    simp only [DataW.weightsEach, List.mem_append] at h
    rcases h with h | h
    · exact ⟨0, t, d, rfl, rfl, h⟩
    · obtain ⟨j, t', d', h1, h2, h3⟩ := weightsEach_mem h
      exact ⟨j + 1, t', d', h1, h2, h3⟩
  | [], _, _, h => by simp [DataW.weightsEach] at h
  | _ :: _, [], _, h => by simp [DataW.weightsEach] at h
theorem weightsAll_mem {H : Type} {e : TypeId} : ∀ {ds : List (DataW H)} {d : DataW H}, d ∈ ds → ∀ n ∈ d.weights Try.prog e, n ∈ DataW.weightsAll Try.prog e ds
  | x :: r, d, hd, n, hn => by
    simp only [DataW.weightsAll, List.mem_append]
    rcases List.mem_cons.1 hd with rfl | hd
    · exact .inl hn
    · exact .inr (weightsAll_mem hd n hn)
/-- An argument's. -/
theorem sz_arg {H : Type} {ts : List TypeId} {ds : List (DataW H)} (h : (DataW.weightsEach Try.prog ts ds).all (· ≤ reachBytes) = true) {j : Nat} {t : TypeId} {d : DataW H} (ht : ts[j]? = some t) (hd : ds[j]? = some d) : Sz t d := fun n hn => by
  simpa using List.all_eq_true.1 h n (DataW.weights_mem_each ht hd n hn)
theorem Sz.slice {H : Type} {t e : TypeId} {el sp : List (DataW H)} (h : Sz t (.slice el sp)) (hu : Try.prog.underlying t = some (.slice e)) : (el.length + sp.length) * Try.prog.bytesOf e ≤ reachBytes ∧ ∀ x ∈ el, Sz e x := by
  refine ⟨h _ (by simp [DataW.weights, hu]), fun x hx n hn => h n ?_⟩
  simp only [DataW.weights, hu]
  exact List.mem_cons_of_mem _ (List.mem_append_left _ (weightsAll_mem hx n hn))
theorem Sz.part {H : Type} {t : TypeId} {fs : Array Field} {ps : List (DataW H)} (h : Sz t (.agg ps)) (hu : Try.prog.underlying t = some (.struct fs)) {j : Nat} {f : Field} {d : DataW H} (hf : fs[j]? = some f) (hd : ps[j]? = some d) : Sz f.type d := fun n hn => by
  refine h n ?_
  simp only [DataW.weights, hu]
  refine DataW.weights_mem_each (j := j) ?_ hd n hn
  rw [List.getElem?_map, Array.getElem?_toList, hf]
  rfl
/-- A slice of integers, and its reach. -/
theorem openIz {H : Type} {enc : TypeId × Value → H} {W : World} {fuel : Nat} {a : Option Addr} {len cap : Nat} {d : DataW H} {p : List MemPlace} {t e : TypeId} {k : IntKind} {b : Nat}
    (ht : Try.prog.underlying t = some (.slice e)) (he : Try.prog.underlying e = some (.int k)) (hc : Try.prog.cellsOf e = 1) (hb : Try.prog.bytesOf e = b)
    (hf : DataW.trod enc Try.prog W 0 (fun _ => true) true fuel t (Value.slice a len cap).cells.toList = some (d, p)) (hs : Sz t d) : ∃ zs, IRow k W a len cap zs ∧ len * b ≤ 140737488351232 := by
  obtain ⟨zs, h1, h2⟩ := openI ht he hc hf
  refine ⟨zs, h1, ?_⟩
  rcases h2 with ⟨_, h0⟩ | ⟨el, sp, rfl, hl⟩
  · rw [h0]; omega
  · have := (hs.slice ht).1
    rw [hb, hl] at this
    simp only [reachBytes] at this
    have e2 : len * b ≤ (len + sp.length) * b := Nat.mul_le_mul_right _ (by omega)
    omega
/-- A field that is a slice, whatever its cells are. -/
theorem openF {H : Type} {enc : TypeId × Value → H} {W : World} {fuel : Nat} {cs : List Value} {x : DataW H × List MemPlace} {t e : TypeId} {k : IntKind} {b : Nat}
    (ht : Try.prog.underlying t = some (.slice e)) (he : Try.prog.underlying e = some (.int k)) (hc : Try.prog.cellsOf e = 1) (hb : Try.prog.bytesOf e = b)
    (hf : DataW.trod enc Try.prog W 0 (fun _ => true) true fuel t cs = some x) (hs : Sz t x.1) : ∃ a len cap zs, cs = [.slice a len cap] ∧ IRow k W a len cap zs ∧ len * b ≤ 140737488351232 := by
  rcases open_slice ht hf with ⟨rfl, _⟩ | ⟨a, l, c, m, n, D, Pl, rfl, _⟩
  · obtain ⟨zs, h1, h2⟩ := openIz (a := none) (len := 0) (cap := 0) (d := x.1) (p := x.2) ht he hc hb hf hs
    exact ⟨none, 0, 0, zs, rfl, h1, h2⟩
  · obtain ⟨zs, h1, h2⟩ := openIz (a := some a) (len := l) (cap := c) (d := x.1) (p := x.2) ht he hc hb hf hs
    exact ⟨some a, l, c, zs, rfl, h1, h2⟩
/-- A slice of structs that may hold slices. -/
theorem openOz {H : Type} {enc : TypeId × Value → H} {W : World} {fuel : Nat} {a : Option Addr} {len cap : Nat} {d : DataW H} {p : List MemPlace} {t e : TypeId} {nc b : Nat} (R : List Value → Prop)
    (ht : Try.prog.underlying t = some (.slice e)) (ce : Try.prog.cellsOf e = nc) (hb : Try.prog.bytesOf e = b) (hR : ∀ n cs x, DataW.trod enc Try.prog W 0 (fun _ => true) true n e cs = some x → Sz e x.1 → R cs)
    (hf : DataW.trod enc Try.prog W 0 (fun _ => true) true fuel t (Value.slice a len cap).cells.toList = some (d, p)) (hs : Sz t d) : ORow nc R W a len cap ∧ len * b ≤ 140737488351232 := by
  rcases open_slice ht hf with ⟨hcs, hx⟩ | ⟨x, l, c, m, n, D, Pl, hcs, _, hl, hm, hmm, hx, hcell⟩
  · simp [Value.cells] at hcs
    obtain ⟨rfl, rfl, rfl⟩ := hcs
    exact ⟨⟨Nat.le_refl _, by unfold maxLen; omega, fun _ => rfl, fun x h => by cases h⟩, by omega⟩
  · simp [Value.cells] at hcs
    obtain ⟨rfl, rfl, rfl⟩ := hcs
    simp only [Prod.mk.injEq] at hx
    simp only [if_true] at hmm
    obtain ⟨rfl, -⟩ := hx
    obtain ⟨hz, hz2⟩ := hs.slice ht
    refine ⟨⟨hl, hm, fun h => (by cases h), fun y hy i hi => ?_⟩, ?_⟩
    · obtain rfl := Option.some.inj hy
      obtain ⟨cs, h1, h2⟩ := hcell i (by omega)
      rw [ce] at h1
      obtain ⟨_, hlen, hc⟩ := World.cells?_some h1
      refine ⟨cs, hlen, hR _ _ _ h2 (hz2 _ (List.mem_map.2 ⟨i, by simpa using hi, rfl⟩)), fun j hj => ?_⟩
      have := hc j (by omega)
      rw [Addr.add_add] at this
      exact this
    · rw [hb] at hz
      simp only [List.length_map, List.length_range, reachBytes] at hz
      have e2 : len * b ≤ (len + (m - len)) * b := Nat.mul_le_mul_right _ (by omega)
      omega
/-- A field that is a slice of such structs. -/
theorem openFo {H : Type} {enc : TypeId × Value → H} {W : World} {fuel : Nat} {cs : List Value} {x : DataW H × List MemPlace} {t e : TypeId} {nc b : Nat} (R : List Value → Prop)
    (ht : Try.prog.underlying t = some (.slice e)) (ce : Try.prog.cellsOf e = nc) (hb : Try.prog.bytesOf e = b) (hR : ∀ n cs x, DataW.trod enc Try.prog W 0 (fun _ => true) true n e cs = some x → Sz e x.1 → R cs)
    (hf : DataW.trod enc Try.prog W 0 (fun _ => true) true fuel t cs = some x) (hs : Sz t x.1) : ∃ a len cap, cs = [.slice a len cap] ∧ ORow nc R W a len cap ∧ len * b ≤ 140737488351232 := by
  rcases open_slice ht hf with ⟨rfl, _⟩ | ⟨a, l, c, m, n, D, Pl, rfl, _⟩
  · have := openOz (a := none) (len := 0) (cap := 0) (d := x.1) (p := x.2) R ht ce hb hR hf hs
    exact ⟨none, 0, 0, rfl, this⟩
  · have := openOz (a := some a) (len := l) (cap := c) (d := x.1) (p := x.2) R ht ce hb hR hf hs
    exact ⟨some a, l, c, rfl, this⟩
end Go.Proofs.Ytgimnoehagfhhaa
