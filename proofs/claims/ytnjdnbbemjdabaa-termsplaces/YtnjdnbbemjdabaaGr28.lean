/- What is counted of the places of a sum's terms; the walk of TermsPlaces where there is no sum. All that the walk of TermsPlaces needs of the places, by kind. -/
import Derived.Test.YtnjdnbbemjdabaaGr26
import Derived.Test.YtnjdnbbemjdabaaGr27
/- What is counted of the places of a sum's terms; the walk of TermsPlaces where there is no sum. -/
namespace Go.Proofs.Ytnjdnbbemjdabaa
open Go.ChangeShapes Go.WideShapes Go.ChangeAt Go.RowKit
set_option linter.unusedVariables false
/-- How often each place came among the first y. -/
def snL (f : Nat → Int) (m y : Nat) : List Int := (List.range m).map fun (p : Nat) => ((List.count (p : Int) ((List.range y).map f) : Nat) : Int)
def pdN (f : Nat → Int) (y : Nat) : Nat := List.count (-1) ((List.range y).map f)
theorem snL_len (f : Nat → Int) (m y : Nat) : (snL f m y).length = m := by simp [snL]
theorem snL_0 (f : Nat → Int) (m : Nat) : snL f m 0 = List.replicate m 0 := by
  apply List.ext_getElem
  · simp [snL]
  · intro i h1 h2
    simp [snL]
theorem rng_succ (f : Nat → Int) (y : Nat) : (List.range (y + 1)).map f = (List.range y).map f ++ [f y] := by rw [List.range_succ, List.map_append]; rfl
theorem snL_pad {f : Nat → Int} {m y : Nat} (h : f y = -1) : snL f m (y + 1) = snL f m y := by
  unfold snL
  rw [rng_succ, h]
  refine List.map_congr_left fun p _ => ?_
  rw [List.count_append]
  have : List.count (p : Int) [-1] = 0 := by rw [List.count_eq_zero]; intro hm; have := List.mem_singleton.1 hm; omega
  rw [this, Nat.add_zero]
theorem pdN_pad {f : Nat → Int} {y : Nat} (h : f y = -1) : pdN f (y + 1) = pdN f y + 1 := by
  unfold pdN
  rw [rng_succ, h, List.count_append]
  rfl
theorem pdN_hit {f : Nat → Int} {y : Nat} (h : f y ≠ -1) : pdN f (y + 1) = pdN f y := by
  unfold pdN
  rw [rng_succ, List.count_append]
  have : List.count (-1) [f y] = 0 := by rw [List.count_eq_zero]; simp; exact fun e => h e.symm
  rw [this, Nat.add_zero]
theorem pdN_le (f : Nat → Int) (y : Nat) : pdN f y ≤ y := by
  have := List.count_le_length (a := (-1 : Int)) (l := (List.range y).map f)
  simpa [pdN] using this
/-- A place that comes for the first time. -/
theorem snL_hit {f : Nat → Int} {m y p : Nat} (h : f y = (p : Int)) (hp : p < m) (hinj : ∀ i, i < y → f i ≠ f y) : snL f m (y + 1) = (snL f m y).set p 1 ∧ (snL f m y).getD p 0 = 0 := by
  have h0 : List.count (p : Int) ((List.range y).map f) = 0 := by
    rw [List.count_eq_zero]
    intro hm
    obtain ⟨i, hi, he⟩ := List.mem_map.1 hm
    exact hinj i (List.mem_range.1 hi) (by rw [he, h])
  constructor
  · apply List.ext_getElem
    · simp [snL]
    · intro i h1 h2
      rw [List.getElem_set]
      simp only [snL, List.getElem_map, List.getElem_range]
      rw [rng_succ, List.count_append, h]
      by_cases e : p = i
      · subst e
        rw [if_pos rfl, h0]
        simp
      · rw [if_neg e]
        have : List.count (i : Int) [(p : Int)] = 0 := by rw [List.count_eq_zero]; simp; omega
        rw [this, Nat.add_zero]
  · simp [snL, List.getD, hp, h0]
/-- A block of ints. -/
def Sn (w : World) (g : Nat) (zs : List Int) : Prop := w.heap[g]? = some (.cells (zs.map (Value.int .i64)).toArray 3 (0, 0))
theorem Sn.at {w : World} {g p : Nat} {zs : List Int} (h : Sn w g zs) (hp : p < zs.length) : w.cell? ⟨g, p, none⟩ = some (.int .i64 (zs.getD p 0)) := by
  rw [(cells_at h).1]
  simp [List.getD, hp]
theorem Sn.set {w : World} {g p : Nat} {zs : List Int} (z : Int) (h : Sn w g zs) : Sn (w.setCell ⟨g, p, none⟩ (.int .i64 z)) g (zs.set p z) := by
  have := heap_setCell_at (i := p) (v := .int .i64 z) h
  unfold Sn
  rw [this]
  congr 2
  apply Array.ext'
  simp
theorem Sn.below {w w' : World} {g : Nat} {zs : List Int} (h : Sn w g zs) (k : Below w.heap.size w w') : Sn w' g zs := (k.block g (lt_of_heap h)).trans h
set_option maxHeartbeats 8000000 in
set_option maxRecDepth 100000 in
theorem termsPlaces_e (h w c lo hi : Int) (oa : Option Addr) (on oc : Nat) (ot op ch at' : Int) (W : World) (E ln F : Int) (hE : E ≠ 0)
    (hO : ∀ W', Below W.heap.size W W' → Calls Try.prog 14 #[.agg #[.int .i64 h, .int .i64 w, .int .i64 c, .int .i64 lo, .int .i64 hi, .slice oa on oc, .int .i64 ot], .int .i64 op, .int .i64 ch, .int .i64 at'] W' fun e w' => e = .returned (.tuple #[.slice none 0 0, .int .i64 0, .int .i64 E]) ∧ Below W'.heap.size W' w')
    (hLn : ∀ W', Below W.heap.size W W' → Calls Try.prog 8 #[.agg #[.int .i64 h, .int .i64 w, .int .i64 c, .int .i64 lo, .int .i64 hi, .slice oa on oc, .int .i64 ot], .int .i64 op] W' fun e w' => e = .returned (.tuple #[.int .i64 ln, .int .i64 F]) ∧ Below W'.heap.size W' w') :
    Calls Try.prog 5 #[.agg #[.int .i64 h, .int .i64 w, .int .i64 c, .int .i64 lo, .int .i64 hi, .slice oa on oc, .int .i64 ot, .int .i64 op, .int .i64 ch, .int .i64 at']] W fun e w' => e = .returned (.bool true) ∧ Below W.heap.size W w' := by
  have HO : Hid (∀ W', _) := hO
  have HL : Hid (∀ W', _) := hLn
  have hE' : (E == 0) = false := by simp [hE]
  have hE2 : (E != 0) = true := by simp [hE]
  have s0 := (St.start W).new (c := #[.int .i64 h, .int .i64 w, .int .i64 c, .int .i64 lo, .int .i64 hi, .slice oa on oc, .int .i64 ot, .int .i64 op, .int .i64 ch, .int .i64 at']) (t := 46)
  clear hO hE hLn
  go_enter Try.func5, Try.ntmps5
  go_wp2_with fail
  refine (fixed10_any _).mono ?_
  rintro e w1 ⟨rfl, hb⟩
  have s1 := s0.call hb
  obtain ⟨c1, f1, z1, -⟩ := s1.rules
  clear hb s0
  go_wp2_with fail
  refine (HO.out _ s1.below).mono ?_
  rintro e w2 ⟨rfl, hb⟩
  have s2 := s1.call hb
  clear hb s1 c1 f1 z1
  obtain ⟨c1, f1, z1, -⟩ := s2.rules
  go_wp2_with fail
  refine (HL.out _ s2.below).mono ?_
  rintro e w3 ⟨rfl, hb⟩
  have s3 := s2.call hb
  clear hb s2 c1 f1 z1
  go_wp2
  go_ret
  exact ⟨rfl, s3.below⟩
end Go.Proofs.Ytnjdnbbemjdabaa

/- All that the walk of TermsPlaces needs of the places, by kind. -/
namespace Go.Proofs.Ytnjdnbbemjdabaa
open Go.ChangeShapes Go.WideShapes Go.ChangeAt Go.RowKit
set_option linter.unusedVariables false
/-- An operation that yields a value and leaves a world, both said. -/
theorem wpList_runs {P : Program} {ops : Array Oper} {rest : List Oper} {o : Oper} {a : Act} {w : World} {Q : Exit → Act → World → Prop} (hg : o.guard = none) (dst : Option Tmp) (hdst : o.dst = dst)
    (v : Value) (w' : World) (hrun : (execOp a.eval o).run P w = .ok (.value v) w') (h : wpList P ops Q rest (a.put dst v) w') : wpList P ops Q (o :: rest) a w := by
  subst hdst
  refine wpList_plain hg fun K hK => ?_
  unfold Oper.wp
  rw [hrun, Oper.upon_value]
  exact hK _ _ h
theorem St.setX {w0 w : World} {l : List (Nat × Array Value × TypeId)} {B i : Nat} {v : Value} (h : St w0 w l) (hB : w0.heap.size ≤ B) (hl : ∀ x ∈ l, x.1 ≠ B) : St w0 (w.setCell ⟨B, i, none⟩ v) l :=
  ⟨h.1.setCell (p := ⟨B, i, none⟩) hB v, fun x hx => ⟨by rw [Below.heap_setCell _ _ _ _ (hl x hx)]; exact (h.2 x hx).1, (h.2 x hx).2⟩⟩
theorem set_at_self {l : List Int} {p : Nat} (h : p < l.length) : (l.set p 1).getD p 0 = 1 := by simp [List.getD, h]
/-- What is known of the places of a channel's terms at a position. -/
structure Plf (k kh kw sh sw tp lf bt rt h w c ch at' : Int) (f : Nat → Int) (st M : Nat) : Prop where
  bd : ∀ i, i < st → f i = -1 ∨ (0 ≤ f i ∧ f i < (M : Int))
  inj : ∀ i j, i < st → j < st → f i ≠ -1 → f i = f j → i = j
  chn : k = 3 ∨ k = 4 → ∀ i, i < st → f i ≠ -1 → Int.tmod (f i) c = ch - 1
  one : k = 1 → pdN f st = 0 ∧ st = M
  win : k ≠ 1 → (pdN f st : Int) = (if k = 2 then (Nx.padN (tapsOf h w c kh kw sh sw tp lf bt rt at') : Int) * c else (Nx.padN (tapsOf h w c kh kw sh sw tp lf bt rt at') : Int)) ∧ pdN f st < st ∧ (coR h w c kh kw sh sw tp lf bt rt at').2.2 = 0 ∧ Nx.padN (tapsOf h w c kh kw sh sw tp lf bt rt at') ≤ 1024
theorem plf_of {k kh kw sh sw tp lf bt rt h w c H V C ch at' : Int} {lw lb st M : Nat} (s : Sit k kh kw sh sw tp lf bt rt h w c H V C lw lb) (hch : 1 ≤ ch ∧ ch ≤ C) (hat : 0 ≤ at' ∧ at' < H * V) (hst : stR k kh kw h w c = (st : Int)) (hM : h * w * c = (M : Int)) :
    Plf k kh kw sh sw tp lf bt rt h w c ch at' (fun i : Nat => plA k c ch h w kw (coR h w c kh kw sh sw tp lf bt rt at').1 (coR h w c kh kw sh sw tp lf bt rt at').2.1 (i : Int)) st M := by
  obtain ⟨hk, hvA, hvB, hou, -, hwn, -, h3c, -⟩ := s
  have hC1 := (vS_yes hvB).2.2.1
  have hc1 := (vS_yes hvA).2.2.1
  have hd1 := (vS_yes hvA).1
  have hw1 := (vS_yes hvA).2.1
  by_cases k1 : k = 1
  · subst k1
    have hsM : st = M := by
      have : stR 1 kh kw h w c = h * w * c := rfl
      rw [this, hM] at hst
      exact_mod_cast hst.symm
    have hf : ∀ i : Nat, plA 1 c ch h w kw (coR h w c kh kw sh sw tp lf bt rt at').1 (coR h w c kh kw sh sw tp lf bt rt at').2.1 (i : Int) = (i : Int) := fun i => if_pos rfl
    refine ⟨fun i hi => ?_, fun i j _ _ _ he => ?_, fun q => by omega, fun _ => ⟨?_, hsM⟩, fun q => absurd rfl q⟩
    · rw [hf]; right; omega
    · rw [hf, hf] at he; exact_mod_cast he
    · unfold pdN
      rw [List.count_eq_zero]
      intro hm
      obtain ⟨i, -, he⟩ := List.mem_map.1 hm
      have he' := (hf i).symm.trans he
      omega
  · obtain ⟨hk1, hk2⟩ := hwn (by omega)
    have hF : 0 ≤ chF k ch := by unfold chF; split <;> omega
    have hB0 : chB k c ch ≤ c := by
      unfold chB
      split
      · omega
      · have := h3c (by omega); omega
    have hFB : chF k ch < chB k c ch := by unfold chF chB; split <;> omega
    obtain ⟨nC, hnC⟩ : ∃ nC : Nat, (nC : Int) = chB k c ch - chF k ch := ⟨(chB k c ch - chF k ch).toNat, by omega⟩
    rcases coR_cases h w c kh kw sh sw tp lf bt rt at' with ⟨e, he, h2⟩ | ⟨rr, qq, he, hf, hn, hcc⟩
    · exfalso
      unfold coR at he
      rw [hou (by omega)] at he
      simp only at he
      rw [if_pos trivial, if_pos hat] at he
      simp at he
      omega
    have hcor := cor_of hf hn
    have htp : tapsOf h w c kh kw sh sw tp lf bt rt at' = tapL h w kw (coR h w c kh kw sh sw tp lf bt rt at').1 (coR h w c kh kw sh sw tp lf bt rt at').2.1 (kh * kw).toNat := by rw [tapsOf_ok hcc, hcc]
    have hz : (coR h w c kh kw sh sw tp lf bt rt at').2.2 = 0 := by rw [hcc]
    have hcor2 : Cor h w kh kw (coR h w c kh kw sh sw tp lf bt rt at').1 (coR h w c kh kw sh sw tp lf bt rt at').2.1 := by rw [hcc]; exact hcor
    obtain ⟨t, ht⟩ : ∃ t, (coR h w c kh kw sh sw tp lf bt rt at').1 = t := ⟨_, rfl⟩
    obtain ⟨u, hu⟩ : ∃ u, (coR h w c kh kw sh sw tp lf bt rt at').2.1 = u := ⟨_, rfl⟩
    rw [ht, hu] at htp hcor2 ⊢
    obtain ⟨N, hN⟩ : ∃ N : Nat, kh * kw = (N : Int) := ⟨(kh * kw).toNat, by have := (mul_bd hk1.1 hk1.2 hk2.1 hk2.2).1; omega⟩
    have hN2 : N ≤ 1024 := by have := (mul_bd hk1.1 hk1.2 hk2.1 hk2.2).2; omega
    rw [hN, Int.toNat_natCast] at htp
    have hstN : st = N * nC := by
      have e : stR k kh kw h w c = (N : Int) * nC := by
        unfold stR
        rw [if_neg k1, hN, hnC]
        by_cases k2 : k = 2
        · rw [if_pos k2, show chB k c ch = c from if_pos k2, show chF k ch = 0 from if_pos k2, Int.sub_zero]
        · rw [if_neg k2, if_pos (by omega), show chB k c ch = ch from if_neg k2, show chF k ch = ch - 1 from if_neg k2, show ch - (ch - 1) = 1 by omega, Int.mul_one]
      rw [hst] at e
      exact_mod_cast e
    have g : Wn4 k c ch h w kw t u nC N := ⟨k1, by omega, hnC, by omega, hF, hB0, hc1, hd1, hw1, hcor.2.2.1, by omega, rfl⟩
    have hcnt := g.count
    have hpl := pad_lt hcor2 hN
    have hpn : pdN (fun i : Nat => plA k c ch h w kw t u (i : Int)) st = Nx.padN (tapL h w kw t u N) * nC := by rw [hstN]; exact hcnt
    refine ⟨fun i hi => ?_, fun i j _ _ h1 h2 => g.inj h1 h2, fun q i hi h1 => g.chn (by omega) h1, fun q => absurd q k1, fun _ => ⟨?_, ?_, hz, ?_⟩⟩
    · have := g.bd i
      rw [hM] at this
      exact this
    · rw [htp, hpn]
      by_cases k2 : k = 2
      · rw [if_pos k2]
        have : (nC : Int) = c := by rw [hnC, show chB k c ch = c from if_pos k2, show chF k ch = 0 from if_pos k2, Int.sub_zero]
        rw [← this]
        push_cast
        rfl
      · rw [if_neg k2]
        have : (nC : Int) = 1 := by rw [hnC, show chB k c ch = ch from if_neg k2, show chF k ch = ch - 1 from if_neg k2]; omega
        have h1 : nC = 1 := by omega
        rw [h1, Nat.mul_one]
    · rw [hpn, hstN]
      exact Nat.mul_lt_mul_of_pos_right hpl (by omega)
    · rw [htp]
      omega
end Go.Proofs.Ytnjdnbbemjdabaa
