/- What an op makes of its tensors, in plain numbers; what is known of each op of a well-formed model; an op alone. What lengthOf of package cert returns. What Cost of package cert returns. What Cost of package cert returns, of a certificate that has the form. -/
import Derived.Test.YtcjnhchjikcigaaGr01
import Derived.Test.YtcjnhchjikcigaaGr16
import Derived.Test.YtcjnhchjikcigaaGr24
/- What an op makes of its tensors, in plain numbers; what is known of each op of a well-formed model; an op alone. -/
namespace Go.Proofs.Ytcjnhchjikcigaa
open Go.ChangeShapes Go.WideShapes Go.ChangeAt Go.RowKit
set_option linter.unusedVariables false
/-- What is known of an op: the shape of tensor A, the one that it makes, its fields. -/
structure Opd (k b m kh kw sh sw tp lf bt rt : Int) (lw lb : Nat) (sm ss um us z p lo hi h w c H V C : Int) : Prop where
  hk : 1 ≤ k ∧ k ≤ 8
  hA : vS h w c = true
  hB : vS H V C = true
  si : k ≤ 4 → Sit k kh kw sh sw tp lf bt rt h w c H V C lw lb
  al : k ≤ 4 → tkE k 0 b m kh kw sh sw tp lf bt rt lw lb sm ss um us z p lo hi [(h, w, c)] 0 = 0 ∧ mk3 k m kh kw sh sw tp lf bt rt (h, w, c) = (H, V, C)
  ou : 2 ≤ k ∧ k ≤ 5 → ouR h w c kh kw sh sw tp lf bt rt = (H, V, 0)
  c3 : 3 ≤ k → C = c
  s6 : 6 ≤ k → H = h ∧ V = w
  rz : rzB z p lo hi = true
  sc : ssB k sm ss um us = true
  oz : ozB k b m kh kw sh sw tp lf bt rt lw lb sm ss um us z p = true
theorem op_opd {k a b m kh kw sh sw tp lf bt rt : Int} {lw lb : Nat} {sm ss um us z p lo hi : Int} {wk : Int} {L : List (Int × Int × Int)} (hx : tkE k a b m kh kw sh sw tp lf bt rt lw lb sm ss um us z p lo hi L wk = 0) (hwk : 0 ≤ wk) (hv : ∀ s ∈ L, vS3 s = true)
    {h w c H V C : Int} (hA : ShA L a = (h, w, c)) (hB : mk3 k m kh kw sh sw tp lf bt rt (h, w, c) = (H, V, C)) : Opd k b m kh kw sh sw tp lf bt rt lw lb sm ss um us z p lo hi h w c H V C ∧ (0 ≤ b ∧ b < (L.length : Int)) ∧ (k = 6 → ShA L b = (h, w, c)) := by
  obtain ⟨t1, -, t3, ⟨a0, a1⟩, hk, t6⟩ := tk_0 hx hv
  have hg : vS h w c = true := by
    obtain ⟨i, rfl⟩ := Int.eq_ofNat_of_zero_le a0
    have := hv _ (ShA_mem (show i < L.length by omega))
    rw [hA] at this
    exact this
  have h1 : opE k a b m kh kw sh sw tp lf bt rt lw lb sm ss um us z p lo hi L = 0 := by
    unfold tkE at hx
    by_cases q : opE k a b m kh kw sh sw tp lf bt rt lw lb sm ss um us z p lo hi L ≠ 0
    · rw [if_pos q] at hx; exact hx
    · exact Decidable.not_not.1 q
  have hsit : k ≤ 4 → Sit k kh kw sh sw tp lf bt rt h w c H V C lw lb := fun q => op_sit hx (by omega) hv hA hB
  rw [hA] at t1 t6
  rw [hB] at t1
  have fit := fit_of (A := (h, w, c)) t6 (by rw [hB]; exact t1)
  rw [hB] at fit
  obtain ⟨f1, f2, f3⟩ := fit
  have h1' := h1
  unfold opE at h1
  rw [hA, hB] at h1
  by_cases q1 : fmE k a b L.length (ozB k b m kh kw sh sw tp lf bt rt lw lb sm ss um us z p) ≠ 0
  · rw [if_pos q1] at h1; exact absurd h1 q1
  rw [if_neg q1] at h1
  obtain ⟨-, -, hb6, hoz⟩ := fmE_0 (Decidable.not_not.1 q1)
  simp only at h1
  rw [t6, if_neg (by decide)] at h1
  by_cases q3 : k = 6 ∧ (h, w, c) ≠ ShA L b
  · rw [if_pos q3] at h1; cases h1
  rw [if_neg q3] at h1
  by_cases q2 : rdB k = true ∧ 512 < st3 k kh kw (h, w, c)
  · rw [if_pos q2] at h1; cases h1
  rw [if_neg q2] at h1
  obtain ⟨n1, n2, n3⟩ := nuE_0 h1
  have hoz' := of_decide_eq_true hoz
  have hal : k ≤ 4 → tkE k 0 b m kh kw sh sw tp lf bt rt lw lb sm ss um us z p lo hi [(h, w, c)] 0 = 0 := fun q => by
    have e : ShA [(h, w, c)] 0 = (h, w, c) := rfl
    have hf : fmE k 0 b (([(h, w, c)] : List (Int × Int × Int)).length : Int) (ozB k b m kh kw sh sw tp lf bt rt lw lb sm ss um us z p) = 0 := by
      unfold fmE
      rw [if_neg (by omega), if_neg (by simp), if_neg (by omega), hoz, if_neg (by decide)]
    have ho : opE k 0 b m kh kw sh sw tp lf bt rt lw lb sm ss um us z p lo hi [(h, w, c)] = 0 := by
      unfold opE
      rw [e, hB]
      simp only
      rw [hf, if_neg (by decide), t6, if_neg (by decide), if_neg (by omega), if_neg q2]
      exact h1
    unfold tkE
    rw [ho, if_neg (by decide), e]
    rw [hA] at t3
    rw [if_neg (by omega)]
  refine ⟨⟨hk, hg, f1, hsit, fun q => ⟨hal q, hB⟩, fun q => (f2 q).1, fun q => ?_, fun q => ?_, n3, n2, hoz⟩, ?_, fun q => ?_⟩
  · by_cases q5 : k ≤ 5
    · exact (f2 (by omega)).2 (by omega)
    · have := f3 (by omega); simp only [Prod.mk.injEq] at this; exact this.2.2
  · have := f3 q; simp only [Prod.mk.injEq] at this; exact ⟨this.1, this.2.1⟩
  · by_cases q : k = 6
    · exact hb6 q
    · have := (hoz'.1 q).1; omega
  · by_cases q4 : (h, w, c) = ShA L b
    · exact q4.symm
    · exact absurd ⟨q, q4⟩ q3
/-- Each op of a well-formed model: the tensors that it reads, their shapes. -/
theorem opd_of {O : Nat → Nat → Int} {h w c lo hi ot t wk : Int} {on : Nat} {L : List (Int × Int × Int)} (q : gtR O h w c lo hi ot on = (0, t, L, wk)) {i : Nat} (hi0 : i < on) :
    ∃ ja jb : Nat, O i 1 = (ja : Int) ∧ ja ≤ i ∧ O i 2 = (jb : Int) ∧ jb ≤ i ∧ ∀ x y v H V C, L.getD ja (0, 0, 0) = (x, y, v) → L.getD (i + 1) (0, 0, 0) = (H, V, C) →
      Opd (O i 0) (O i 2) (O i 3) (O i 4) (O i 5) (O i 6) (O i 7) (O i 8) (O i 9) (O i 10) (O i 11) (O i 12).toNat (O i 13).toNat (O i 14) (O i 15) (O i 16) (O i 17) (O i 18) (O i 19) (O i 20) (O i 21) x y v H V C ∧ (O i 0 = 6 → L.getD jb (0, 0, 0) = (x, y, v)) := by
  obtain ⟨hx, rfl, q2⟩ := gtR_st q
  clear q
  have q := q2
  have hv : vS3 (h, w, c) = true := (ouE_0 hx).1
  obtain ⟨wi, g1, -⟩ := stG_pre hv on L wk q (i + 1) (by omega)
  obtain ⟨L0, wk0, h0, hx0, hL, -⟩ := stG_step g1
  obtain ⟨w2, g2, g3, -⟩ := stG_pre hv on L wk q i (by omega)
  rw [g2] at h0
  simp only [Prod.mk.injEq, true_and] at h0
  obtain ⟨rfl, rfl⟩ := h0
  obtain ⟨i1, i2, -⟩ := stG_inv hv i _ _ g2
  obtain ⟨t1, -, -, ⟨a0, a1⟩, -, t6⟩ := tk_0 hx0 i2
  obtain ⟨j, hj⟩ := Int.eq_ofNat_of_zero_le a0
  rw [hj] at a1
  have e1 : ShA (L.take (i + 1)) (j : Int) = ShA L (j : Int) := ShA_take (by omega)
  have e2 : ShA L ((i + 1 : Nat) : Int) = mk3 (O i 0) (O i 3) (O i 4) (O i 5) (O i 6) (O i 7) (O i 8) (O i 9) (O i 10) (O i 11) (ShA L (j : Int)) := by
    rw [← ShA_take (n := i + 1 + 1) (by omega), hL]
    unfold ShA at e1 ⊢
    rw [Int.toNat_natCast]
    simp only [List.getD]
    rw [List.getElem?_append_right (by omega), i1, Nat.sub_self]
    unfold oM ShA
    rw [hj, Int.toNat_natCast]
    rw [Int.toNat_natCast] at e1
    simp only [List.getElem?_cons_zero, Option.getD_some]
    rw [e1]
    rfl
  obtain ⟨A1, A2, A3, hA0⟩ : ∃ A1 A2 A3, ShA L (j : Int) = (A1, A2, A3) := ⟨_, _, _, rfl⟩
  obtain ⟨B1, B2, B3, hB0⟩ : ∃ B1 B2 B3, ShA L ((i + 1 : Nat) : Int) = (B1, B2, B3) := ⟨_, _, _, rfl⟩
  obtain ⟨r1, ⟨b0, b1⟩, r3⟩ := op_opd (h := A1) (w := A2) (c := A3) (H := B1) (V := B2) (C := B3) hx0 g3 i2 (by rw [hj, e1]; exact hA0) (by rw [← hB0, e2, hA0])
  obtain ⟨jb, hjb⟩ := Int.eq_ofNat_of_zero_le b0
  rw [hjb] at b1 r3
  refine ⟨j, jb, hj, by omega, hjb, by omega, fun x y v H V C hA hB => ?_⟩
  have ea : (A1, A2, A3) = (x, y, v) := by rw [← hA0, ← hA]; unfold ShA; rw [Int.toNat_natCast]
  have eb : (B1, B2, B3) = (H, V, C) := by rw [← hB0, ← hB]; unfold ShA; rw [Int.toNat_natCast]
  simp only [Prod.mk.injEq] at ea eb
  obtain ⟨rfl, rfl, rfl⟩ := ea
  obtain ⟨rfl, rfl, rfl⟩ := eb
  refine ⟨r1, fun q6 => ?_⟩
  have := r3 q6
  rw [ShA_take (by omega)] at this
  unfold ShA at this
  rwa [Int.toNat_natCast] at this
/-- The op alone. -/
theorem alone_g {k a b m kh kw sh sw tp lf bt rt : Int} {lw lb : Nat} {sm ss um us z p lo hi : Int} {h w c H V C : Int} (s : Opd k b m kh kw sh sw tp lf bt rt lw lb sm ss um us z p lo hi h w c H V C) (hk : k ≤ 4) :
    ∃ Rw, gtR (fun _ => oL k 0 b m kh kw sh sw tp lf bt rt (lw : Int) (lb : Int) sm ss um us z p lo hi) h w c 0 0 0 1 = (0, 0, [(h, w, c), (H, V, C)], Rw) := by
  have hou : ouE h w c 0 0 0 1 = 0 := by
    unfold ouE
    rw [s.hA, if_neg (by decide), show rgB 0 0 = true by decide, if_neg (by decide), if_neg (by decide), if_neg (by decide)]
  obtain ⟨a1, a2⟩ := s.al hk
  rw [gtR_of hou]
  have hT : oT (oL k 0 b m kh kw sh sw tp lf bt rt (lw : Int) (lb : Int) sm ss um us z p lo hi) [(h, w, c)] 0 = 0 := by
    show tkE k 0 b m kh kw sh sw tp lf bt rt (lw : Int).toNat (lb : Int).toNat sm ss um us z p lo hi [(h, w, c)] 0 = 0
    rw [Int.toNat_natCast, Int.toNat_natCast]
    exact a1
  rw [stG_ok (i := 0) (L := [(h, w, c)]) (wk := 0) rfl hT]
  have hM : oM (oL k 0 b m kh kw sh sw tp lf bt rt (lw : Int) (lb : Int) sm ss um us z p lo hi) [(h, w, c)] = (H, V, C) := a2
  rw [hM]
  exact ⟨_, rfl⟩
/-! ### Sums -/
def smT (p : Int) (x : List Int) (t : Int × Int) : Int := t.1 * (if t.2 < 0 then p else x.getD t.2.toNat 0)
def smV (p : Int) (x : List Int) : List (Int × Int) → Int
  | [] => 0
  | t :: l => smT p x t + smV p x l
theorem smV_app (p : Int) (x : List Int) : ∀ l r : List (Int × Int), smV p x (l ++ r) = smV p x l + smV p x r
  | [], r => by simp [smV]
  | t :: l, r => by simp only [List.cons_append, smV, smV_app p x l r]; omega
theorem smV_take {p : Int} {x : List Int} {l : List (Int × Int)} {n : Nat} {u v : Int} (hn : n < l.length) (h : l.getD n (0, 0) = (u, v)) : smV p x (l.take (n + 1)) = smV p x (l.take n) + smT p x (u, v) := by
  rw [List.getD_eq_getElem?_getD, List.getElem?_eq_getElem hn, Option.getD_some] at h
  rw [List.take_add_one, List.getElem?_eq_getElem hn, smV_app, h]
  simp [smV]
def I8 (v : Int) : Prop := -128 ≤ v ∧ v ≤ 127
theorem getD_i8 {x : List Int} (h : ∀ v ∈ x, I8 v) (n : Nat) : I8 (x.getD n 0) := by
  rcases Nat.lt_or_ge n x.length with q | q
  · rw [List.getD_eq_getElem?_getD, List.getElem?_eq_getElem q]; exact h _ (List.getElem_mem q)
  · rw [List.getD_eq_getElem?_getD, List.getElem?_eq_none q]; exact ⟨by decide, by decide⟩
theorem prod_i8 {a v : Int} (ha : -32768 ≤ a ∧ a ≤ 32767) (hv : I8 v) : -4194304 ≤ a * v ∧ a * v ≤ 4194304 := by
  obtain ⟨v1, v2⟩ := hv
  rcases Int.le_total 0 a with h | h
  · have p1 := Int.mul_le_mul_of_nonneg_left v1 h
    have p2 := Int.mul_le_mul_of_nonneg_left v2 h
    omega
  · have p1 := Int.mul_le_mul_of_nonpos_left h v1
    have p2 := Int.mul_le_mul_of_nonpos_left h v2
    omega
theorem smT_bd {p : Int} {x : List Int} {t : Int × Int} (hp : I8 p) (hx : ∀ v ∈ x, I8 v) (ht : -32768 ≤ t.1 ∧ t.1 ≤ 32767) : -4194304 ≤ smT p x t ∧ smT p x t ≤ 4194304 := by
  unfold smT
  split
  · exact prod_i8 ht hp
  · exact prod_i8 ht (getD_i8 hx _)
theorem smV_bd {p : Int} {x : List Int} (hp : I8 p) (hx : ∀ v ∈ x, I8 v) : ∀ l : List (Int × Int), (∀ t ∈ l, -32768 ≤ t.1 ∧ t.1 ≤ 32767) → -(4194304 * (l.length : Int)) ≤ smV p x l ∧ smV p x l ≤ 4194304 * (l.length : Int)
  | [], _ => by simp [smV]
  | t :: l, h => by
    have h1 := smV_bd hp hx l fun t ht => h t (List.mem_cons_of_mem _ ht)
    have h2 := smT_bd hp hx (h t List.mem_cons_self)
    simp only [smV, List.length_cons]
    omega
theorem take_mem {l : List (Int × Int)} {P : Int × Int → Prop} (h : ∀ t ∈ l, P t) (n : Nat) : ∀ t ∈ l.take n, P t := fun t ht => h t (List.mem_of_mem_take ht)
theorem wgA_bd {k ch st : Int} {zs : List Int} (hz : ∀ v ∈ zs, (Lit.int .i16 v).wf = true) (i : Int) : -32768 ≤ wgA k ch st zs i ∧ wgA k ch st zs i ≤ 32767 := by
  unfold wgA
  split
  · omega
  · rcases Nat.lt_or_ge (((ch - 1) * st + i).toNat) zs.length with q | q
    · rw [List.getD_eq_getElem?_getD, List.getElem?_eq_getElem q, Option.getD_some]
      exact wf_i16 (hz _ (List.getElem_mem q))
    · rw [List.getD_eq_getElem?_getD, List.getElem?_eq_none q, Option.getD_none]; omega
theorem biA_bd {k ch : Int} {bs : List Int} (hb : ∀ v ∈ bs, (Lit.int .i32 v).wf = true) : -2147483648 ≤ biA k ch bs ∧ biA k ch bs ≤ 2147483647 := by
  unfold biA
  split
  · omega
  · rcases Nat.lt_or_ge ((ch - 1).toNat) bs.length with q | q
    · rw [List.getD_eq_getElem?_getD, List.getElem?_eq_getElem q, Option.getD_some]
      exact wf_i32 (hb _ (List.getElem_mem q))
    · rw [List.getD_eq_getElem?_getD, List.getElem?_eq_none q, Option.getD_none]; omega
theorem tpc_in {h w kw t u : Int} (q : Int) : tpc h w kw t u q = -1 ∨ (0 ≤ tpc h w kw t u q ∧ tpc h w kw t u q < h * w) := by
  unfold tpc plc
  split
  · rename_i g
    obtain ⟨⟨g1, g2⟩, g3, g4⟩ := g
    have := rowbd g2 g1 g3 g4
    right; omega
  · left; rfl
theorem cov_in {n c q d : Int} (hq : q = -1 ∨ (0 ≤ q ∧ q < n)) (hd : 0 ≤ d ∧ d < c) : cov c q d = -1 ∨ (0 ≤ cov c q d ∧ cov c q d < n * c) := by
  unfold cov
  split
  · left; rfl
  · rename_i g
    rcases hq with q1 | ⟨q1, q2⟩
    · exact absurd q1 g
    · have := rowbd q2 q1 hd.1 hd.2
      right; omega
theorem plA_in {k kh kw sh sw tp lf bt rt h w c H V C : Int} {lw lb : Nat} (s : Sit k kh kw sh sw tp lf bt rt h w c H V C lw lb) {ch : Int} (hch : 1 ≤ ch ∧ ch ≤ C) (t u i : Int) (hi : 0 ≤ i ∧ i < stR k kh kw h w c) :
    plA k c ch h w kw t u i = -1 ∨ (0 ≤ plA k c ch h w kw t u i ∧ plA k c ch h w kw t u i < h * w * c) := by
  obtain ⟨hk, hvA, -, -, -, -, -, h3c, -⟩ := s
  have hc1 := (vS_yes hvA).2.2.1
  unfold plA
  by_cases k1 : k = 1
  · subst k1
    rw [if_pos rfl]
    have : stR 1 kh kw h w c = h * w * c := rfl
    rw [this] at hi
    right; exact hi
  · rw [if_neg k1]
    by_cases k2 : k = 2
    · rw [if_pos k2]
      exact cov_in (tpc_in _) ⟨Int.emod_nonneg _ (by omega), Int.emod_lt_of_pos _ (by omega)⟩
    · rw [if_neg k2]
      have := h3c (by omega)
      exact cov_in (tpc_in _) ⟨by omega, by omega⟩
/-- The terms of a sum: how many, their weights, their places. -/
theorem siL_facts {k kh kw sh sw tp lf bt rt h w c H V C : Int} {lw lb : Nat} (s : Sit k kh kw sh sw tp lf bt rt h w c H V C lw lb) {zs : List Int} (hz : ∀ v ∈ zs, (Lit.int .i16 v).wf = true) {ch : Int} (hch : 1 ≤ ch ∧ ch ≤ C) (at' : Int) :
    (siL k kh kw sh sw tp lf bt rt h w c ch at' zs).length ≤ 512 ∧ ∀ t ∈ siL k kh kw sh sw tp lf bt rt h w c ch at' zs, (-32768 ≤ t.1 ∧ t.1 ≤ 32767) ∧ (t.2 = -1 ∨ (0 ≤ t.2 ∧ t.2 < h * w * c)) := by
  have h1 := s.2.2.2.2.2.2.2.2.2
  have h0 := s.2.2.2.2.2.2.2.2.1
  unfold siL
  refine ⟨by rw [tmL_len]; omega, fun t ht => ?_⟩
  unfold tmL at ht
  obtain ⟨i, hi, rfl⟩ := List.mem_map.1 ht
  have hi' : i < (stR k kh kw h w c).toNat := by simpa using hi
  exact ⟨wgA_bd hz _, plA_in s hch _ _ _ ⟨by omega, by omega⟩⟩
/-- A channel's sum at a position, over the numbers x. -/
def suA (k kh kw sh sw tp lf bt rt h w c p : Int) (zs bs x : List Int) (ch at' : Int) : Int := biA k ch bs + smV p x (siL k kh kw sh sw tp lf bt rt h w c ch at' zs)
theorem suA_bd {k kh kw sh sw tp lf bt rt h w c H V C p : Int} {lw lb : Nat} (s : Sit k kh kw sh sw tp lf bt rt h w c H V C lw lb) {zs bs x : List Int} (hz : ∀ v ∈ zs, (Lit.int .i16 v).wf = true) (hb : ∀ v ∈ bs, (Lit.int .i32 v).wf = true) (hp : I8 p) (hx : ∀ v ∈ x, I8 v) {ch : Int} (hch : 1 ≤ ch ∧ ch ≤ C) (at' : Int) :
    -4294967296 ≤ suA k kh kw sh sw tp lf bt rt h w c p zs bs x ch at' ∧ suA k kh kw sh sw tp lf bt rt h w c p zs bs x ch at' ≤ 4294967296 := by
  obtain ⟨h1, h2⟩ := siL_facts s hz hch at'
  have h3 := smV_bd hp hx _ fun t ht => (h2 t ht).1
  have h4 := biA_bd (k := k) (ch := ch) hb
  unfold suA
  omega
/-- Of all, the first so many. -/
def suL (k kh kw sh sw tp lf bt rt h w c C p : Int) (zs bs x : List Int) (n : Nat) : List Int := (List.range n).map fun (j : Nat) => suA k kh kw sh sw tp lf bt rt h w c p zs bs x ((j : Int) % C + 1) ((j : Int) / C)
theorem suL_len (k kh kw sh sw tp lf bt rt h w c C p : Int) (zs bs x : List Int) (n : Nat) : (suL k kh kw sh sw tp lf bt rt h w c C p zs bs x n).length = n := by simp [suL]
theorem suL_succ (k kh kw sh sw tp lf bt rt h w c C p : Int) (zs bs x : List Int) (n : Nat) : suL k kh kw sh sw tp lf bt rt h w c C p zs bs x (n + 1) = suL k kh kw sh sw tp lf bt rt h w c C p zs bs x n ++ [suA k kh kw sh sw tp lf bt rt h w c p zs bs x ((n : Int) % C + 1) ((n : Int) / C)] := by simp [suL, List.range_succ]
theorem suL_0 (k kh kw sh sw tp lf bt rt h w c C p : Int) (zs bs x : List Int) : suL k kh kw sh sw tp lf bt rt h w c C p zs bs x 0 = [] := rfl
theorem suL_bd {k kh kw sh sw tp lf bt rt h w c H V C p : Int} {lw lb : Nat} (s : Sit k kh kw sh sw tp lf bt rt h w c H V C lw lb) {zs bs x : List Int} (hz : ∀ v ∈ zs, (Lit.int .i16 v).wf = true) (hb : ∀ v ∈ bs, (Lit.int .i32 v).wf = true) (hp : I8 p) (hx : ∀ v ∈ x, I8 v) (n : Nat) :
    ∀ v ∈ suL k kh kw sh sw tp lf bt rt h w c C p zs bs x n, -4294967296 ≤ v ∧ v ≤ 4294967296 := fun v hv => by
  have hC := (vS_yes s.2.2.1).2.2.1
  obtain ⟨j, -, rfl⟩ := List.mem_map.1 hv
  have e1 := Int.emod_nonneg (j : Int) (show C ≠ 0 by omega)
  have e2 := Int.emod_lt_of_pos (j : Int) (show 0 < C by omega)
  exact suA_bd s hz hb hp hx ⟨by omega, by omega⟩ _
theorem divmod_at {C : Int} {q d : Nat} (hd : (d : Int) < C) : ((q : Int) * C + d) / C = q ∧ ((q : Int) * C + d) % C = d := by
  have hC : 0 < C := by omega
  refine ⟨?_, ?_⟩
  · rw [Int.add_comm, Int.add_mul_ediv_right _ _ (by omega), Int.ediv_eq_zero_of_lt (by omega) hd, Int.zero_add]
  · rw [Int.add_comm, Int.add_mul_emod_self_right, Int.emod_eq_of_lt (by omega) hd]
/-! ### The greatest under a window -/
def mxI (a b : Int) : Int := if a < b then b else a
def grA (w c kw : Int) (x : List Int) (t u d : Int) (q : Nat) : Int := x.getD (((t + (q : Int) / kw) * w + (u + (q : Int) % kw)) * c + d).toNat 0
def grM (w c kw : Int) (x : List Int) (t u d : Int) : Nat → Int
  | 0 => -128
  | q + 1 => mxI (grM w c kw x t u d q) (grA w c kw x t u d q)
theorem grM_i8 {w c kw : Int} {x : List Int} (hx : ∀ v ∈ x, I8 v) (t u d : Int) : ∀ q, I8 (grM w c kw x t u d q)
  | 0 => by unfold grM; exact ⟨by decide, by decide⟩
  | q + 1 => by
    have h1 := grM_i8 hx t u d q (w := w) (c := c) (kw := kw)
    have h2 : I8 (grA w c kw x t u d q) := getD_i8 hx _
    unfold grM mxI
    split
    · exact h2
    · exact h1
def grL (kh kw sh sw w c V C : Int) (x : List Int) (n : Nat) : List Int := (List.range n).map fun (j : Nat) => grM w c kw x ((j : Int) / C / V * sh) ((j : Int) / C % V * sw) ((j : Int) % C) (kh * kw).toNat
theorem grL_len (kh kw sh sw w c V C : Int) (x : List Int) (n : Nat) : (grL kh kw sh sw w c V C x n).length = n := by simp [grL]
theorem grL_succ (kh kw sh sw w c V C : Int) (x : List Int) (n : Nat) : grL kh kw sh sw w c V C x (n + 1) = grL kh kw sh sw w c V C x n ++ [grM w c kw x ((n : Int) / C / V * sh) ((n : Int) / C % V * sw) ((n : Int) % C) (kh * kw).toNat] := by simp [grL, List.range_succ]
theorem grL_i8 {kh kw sh sw w c V C : Int} {x : List Int} (hx : ∀ v ∈ x, I8 v) (n : Nat) : ∀ v ∈ grL kh kw sh sw w c V C x n, I8 v := fun v hv => by
  obtain ⟨j, -, rfl⟩ := List.mem_map.1 hv
  exact grM_i8 hx _ _ _ _
/-! ### What an op makes -/
def apL (x : List Int) (m s : Int) : List Int := x.map fun v => Fx.apV v m s
def meL (x : List Int) (n : Int) : List Int := x.map fun v => Fx.meV v n
def adL (x y : List Int) : List Int := (List.range x.length).map fun i => x.getD i 0 + y.getD i 0
def fiL (x : List Int) (z lo hi : Int) : List Int := x.map fun v => Fx.fiV v z lo hi
/-- Ahead of their Finish. -/
def vaL (k kh kw sh sw tp lf bt rt sm ss um us p h w c H V C : Int) (zs bs x y : List Int) : List Int :=
  if k ≤ 3 then apL (suL k kh kw sh sw tp lf bt rt h w c C p zs bs x (H * V * C).toNat) sm ss
  else if k = 4 then meL (suL k kh kw sh sw tp lf bt rt h w c C p zs bs x (H * V * C).toNat) (kh * kw)
  else if k = 5 then grL kh kw sh sw w c V C x (H * V * C).toNat
  else if k = 6 then adL (apL x sm ss) (apL y um us)
  else if k = 7 then apL x sm ss
  else x
def teL (k kh kw sh sw tp lf bt rt sm ss um us z p lo hi h w c H V C : Int) (zs bs x y : List Int) : List Int := fiL (vaL k kh kw sh sw tp lf bt rt sm ss um us p h w c H V C zs bs x y) z lo hi
theorem vaL_len {k b m kh kw sh sw tp lf bt rt : Int} {lw lb : Nat} {sm ss um us z p lo hi h w c H V C : Int} (s : Opd k b m kh kw sh sw tp lf bt rt lw lb sm ss um us z p lo hi h w c H V C) {zs bs x y : List Int} (hx : (x.length : Int) = h * w * c) : ((vaL k kh kw sh sw tp lf bt rt sm ss um us p h w c H V C zs bs x y).length : Int) = H * V * C := by
  have hb := (vS_bd s.hB).2
  unfold vaL
  split
  · unfold apL; rw [List.length_map, suL_len]; omega
  split
  · unfold meL; rw [List.length_map, suL_len]; omega
  split
  · rw [grL_len]; omega
  have e : H * V * C = h * w * c := by rw [(s.s6 (by omega)).1, (s.s6 (by omega)).2, s.c3 (by omega)]
  split
  · unfold adL apL; simp; omega
  split
  · unfold apL; simp; omega
  · omega
theorem rq_le {v d X : Int} (hd : 1 ≤ d) (hv : -X ≤ v ∧ v ≤ X) : -X ≤ Fx.rq v d ∧ Fx.rq v d ≤ X := by
  obtain ⟨a1, a2, -⟩ := Fx.rq_size v d hd
  unfold Fx.sizeV at a1 a2
  split at a1 <;> omega
theorem apV_bd {v m s : Int} (hv : -4294967296 ≤ v ∧ v ≤ 4294967296) : -9223372032559808512 ≤ Fx.apV v m s ∧ Fx.apV v m s ≤ 9223372032559808512 := by
  unfold Fx.apV
  split
  · rename_i hs
    split
    · have hm : 1 ≤ m ∧ m ≤ 2147483647 ∧ 0 ≤ s ∧ s ≤ 62 := by unfold Fx.scB at hs; simpa using hs
      exact rq_le (Fx.p2_pos s) (Fx.prod_bd v m hv.1 hv.2 hm.1 hm.2.1)
    · omega
  · omega
theorem apV_i8 {v m s : Int} (hv : I8 v) : -274877906944 ≤ Fx.apV v m s ∧ Fx.apV v m s ≤ 274877906944 := by
  obtain ⟨v1, v2⟩ := hv
  unfold Fx.apV
  split
  · rename_i hs
    split
    · have hm : 1 ≤ m ∧ m ≤ 2147483647 ∧ 0 ≤ s ∧ s ≤ 62 := by unfold Fx.scB at hs; simpa using hs
      have p1 := Int.mul_le_mul_of_nonneg_right v1 (show 0 ≤ m by omega)
      have p2 := Int.mul_le_mul_of_nonneg_right v2 (show 0 ≤ m by omega)
      exact rq_le (Fx.p2_pos s) ⟨by omega, by omega⟩
    · omega
  · omega
theorem fiB_of {z p lo hi : Int} (h : rzB z p lo hi = true) : Fx.fiB z lo hi = true := by
  unfold rzB rgB vlB at h
  unfold Fx.fiB
  simp at h ⊢
  omega
theorem fiV_in {v z lo hi : Int} (h : Fx.fiB z lo hi = true) : lo ≤ Fx.fiV v z lo hi ∧ Fx.fiV v z lo hi ≤ hi := by
  have h' := h
  unfold Fx.fiB at h'
  simp at h'
  unfold Fx.fiV
  rw [if_pos h]
  exact Fx.clamp_in_ends _ _ _ h'.2.1
theorem fiV_i8 {v z lo hi : Int} : I8 (Fx.fiV v z lo hi) := by
  cases h : Fx.fiB z lo hi with
  | true =>
    have := fiV_in (v := v) h
    unfold Fx.fiB at h
    simp at h
    exact ⟨by omega, by omega⟩
  | false =>
    unfold Fx.fiV
    rw [h, if_neg (by decide)]
    exact ⟨by decide, by decide⟩
theorem fiL_i8 (x : List Int) (z lo hi : Int) : ∀ v ∈ fiL x z lo hi, I8 v := fun v hv => by
  obtain ⟨u, -, rfl⟩ := List.mem_map.1 hv
  exact fiV_i8
/-! ### All tensors -/
def opT (o : Nat → Int) (zs bs : List Int) (A B : Int × Int × Int) (x y : List Int) : List Int :=
  teL (o 0) (o 4) (o 5) (o 6) (o 7) (o 8) (o 9) (o 10) (o 11) (o 14) (o 15) (o 16) (o 17) (o 18) (o 19) (o 20) (o 21) A.1 A.2.1 A.2.2 B.1 B.2.1 B.2.2 zs bs x y
def tnL (O : Nat → Nat → Int) (Z B : Nat → List Int) (L : List (Int × Int × Int)) (x : List Int) : Nat → List (List Int)
  | 0 => [x]
  | n + 1 => tnL O Z B L x n ++ [opT (O n) (Z n) (B n) (L.getD (O n 1).toNat (0, 0, 0)) (L.getD (n + 1) (0, 0, 0)) ((tnL O Z B L x n).getD (O n 1).toNat []) ((tnL O Z B L x n).getD (O n 2).toNat [])]
theorem tnL_len (O : Nat → Nat → Int) (Z B : Nat → List Int) (L : List (Int × Int × Int)) (x : List Int) : ∀ n, (tnL O Z B L x n).length = n + 1
  | 0 => rfl
  | n + 1 => by simp [tnL, tnL_len O Z B L x n]
theorem tnL_at (O : Nat → Nat → Int) (Z B : Nat → List Int) (L : List (Int × Int × Int)) (x : List Int) : ∀ (n i : Nat), i ≤ n → (tnL O Z B L x n).getD i [] = (tnL O Z B L x i).getD i []
  | 0, i, hi => by obtain rfl : i = 0 := by omega
                   rfl
  | n + 1, i, hi => by
    by_cases e : i = n + 1
    · rw [e]
    · have := tnL_at O Z B L x n i (by omega)
      rw [← this]
      have hl := tnL_len O Z B L x n
      simp only [tnL, List.getD]
      rw [List.getElem?_append_left (by omega)]
/-- Tensor number i. -/
def tnA (O : Nat → Nat → Int) (Z B : Nat → List Int) (L : List (Int × Int × Int)) (x : List Int) (i : Nat) : List Int := (tnL O Z B L x i).getD i []
theorem tnA_0 (O : Nat → Nat → Int) (Z B : Nat → List Int) (L : List (Int × Int × Int)) (x : List Int) : tnA O Z B L x 0 = x := rfl
theorem tnL_get (O : Nat → Nat → Int) (Z B : Nat → List Int) (L : List (Int × Int × Int)) (x : List Int) {n i : Nat} (hi : i ≤ n) : (tnL O Z B L x n).getD i [] = tnA O Z B L x i := tnL_at O Z B L x n i hi
theorem tnA_succ {O : Nat → Nat → Int} {Z B : Nat → List Int} {L : List (Int × Int × Int)} {x : List Int} {n ja jb : Nat} (ha : O n 1 = (ja : Int)) (hb : O n 2 = (jb : Int)) (h1 : ja ≤ n) (h2 : jb ≤ n) :
    tnA O Z B L x (n + 1) = opT (O n) (Z n) (B n) (L.getD ja (0, 0, 0)) (L.getD (n + 1) (0, 0, 0)) (tnA O Z B L x ja) (tnA O Z B L x jb) := by
  have hl := tnL_len O Z B L x n
  unfold tnA
  simp only [tnL, List.getD]
  rw [List.getElem?_append_right (by omega), show n + 1 - (tnL O Z B L x n).length = 0 by omega]
  rw [ha, hb, Int.toNat_natCast, Int.toNat_natCast]
  have e1 := tnL_at O Z B L x n ja h1
  have e2 := tnL_at O Z B L x n jb h2
  simp only [List.getD] at e1 e2
  rw [e1, e2]
  rfl
theorem tnL_succ {O : Nat → Nat → Int} {Z B : Nat → List Int} {L : List (Int × Int × Int)} {x : List Int} (n : Nat) : tnL O Z B L x (n + 1) = tnL O Z B L x n ++ [tnA O Z B L x (n + 1)] := by
  have hl := tnL_len O Z B L x n
  have : tnA O Z B L x (n + 1) = opT (O n) (Z n) (B n) (L.getD (O n 1).toNat (0, 0, 0)) (L.getD (n + 1) (0, 0, 0)) ((tnL O Z B L x n).getD (O n 1).toNat []) ((tnL O Z B L x n).getD (O n 2).toNat []) := by
    unfold tnA
    simp only [tnL, List.getD]
    rw [List.getElem?_append_right (by omega), show n + 1 - (tnL O Z B L x n).length = 0 by omega]
    rfl
  rw [this]
  rfl
/-- Each has as many numbers as its shape, each of 8 bits. -/
theorem tn_facts {O : Nat → Nat → Int} {Z B : Nat → List Int} {h w c lo hi ot t wk : Int} {on : Nat} {L : List (Int × Int × Int)} {x : List Int} (q : gtR O h w c lo hi ot on = (0, t, L, wk)) (hx : (x.length : Int) = h * w * c) (h8 : ∀ v ∈ x, I8 v) :
    ∀ i, i ≤ on → ((tnA O Z B L x i).length : Int) = (L.getD i (0, 0, 0)).1 * (L.getD i (0, 0, 0)).2.1 * (L.getD i (0, 0, 0)).2.2 ∧ ∀ v ∈ tnA O Z B L x i, I8 v := by
  intro i
  induction i using Nat.strongRecOn with
  | ind i ih =>
    intro hi0
    cases i with
    | zero =>
      have := (gtR_at q).1
      unfold ShA at this
      rw [Int.toNat_natCast] at this
      rw [this]
      exact ⟨hx, h8⟩
    | succ n =>
      obtain ⟨ja, jb, e1, e2, e3, e4, hO⟩ := opd_of q (i := n) (by omega)
      obtain ⟨a1, a2, a3, hA⟩ : ∃ a1 a2 a3, L.getD ja (0, 0, 0) = (a1, a2, a3) := ⟨_, _, _, rfl⟩
      obtain ⟨b1, b2, b3, hB⟩ : ∃ b1 b2 b3, L.getD (n + 1) (0, 0, 0) = (b1, b2, b3) := ⟨_, _, _, rfl⟩
      obtain ⟨s, -⟩ := hO _ _ _ _ _ _ hA hB
      have hl := (ih ja (by omega) (by omega)).1
      rw [hA] at hl
      rw [tnA_succ e1 e3 e2 e4, hA, hB]
      unfold opT teL
      refine ⟨?_, fiL_i8 _ _ _ _⟩
      unfold fiL
      rw [List.length_map]
      exact vaL_len s hl
end Go.Proofs.Ytcjnhchjikcigaa

/- What lengthOf of package cert returns. -/
namespace Go.Proofs.Ytcjnhchjikcigaa
open Go.ChangeShapes Go.WideShapes Go.ChangeAt Go.RowKit
set_option linter.unusedVariables false
theorem ecells {w : World} {B : Nat} {cs : List Value} {T : TypeId} (h : w.heap[B]? = some (.cells cs.toArray T (0, 0))) : ∀ (q : Nat) (v : Value), cs[q]? = some v → w.cell? ((⟨B, 0, none⟩ : Addr).add q) = some v := fun q v hq => by
  rw [Addr.add_lit, Nat.zero_add, (cells_at h).1]
  simpa using hq
theorem lrow_alone (k a b m kh kw sh sw tp lf bo rt : Int) (wa : Option Addr) (lw wc : Nat) (ba : Option Addr) (lb bc : Nat) (sm ss um us z p lo hi h w c : Int) (zs bs : List Int) (W : World) (hZ : IRow .i16 W wa lw wc zs) (hB : IRow .i32 W ba lb bc bs) (hlw : lw * 2 ≤ 140737488351232) (hlb : lb * 4 ≤ 140737488351232) (g : Nat) (hg : W.heap[g]? = some (.cells #[.int .i64 k, .int .i64 0, .int .i64 b, .int .i64 m, .int .i64 kh, .int .i64 kw, .int .i64 sh, .int .i64 sw, .int .i64 tp, .int .i64 lf, .int .i64 bo, .int .i64 rt, .slice wa lw wc, .slice ba lb bc, .int .i64 sm, .int .i64 ss, .int .i64 um, .int .i64 us, .int .i64 z, .int .i64 p, .int .i64 lo, .int .i64 hi] 70 (0, 0))) :
    LRow W (some ⟨g, 0, none⟩) 1 1 (fun _ => oL k 0 b m kh kw sh sw tp lf bo rt (lw : Int) (lb : Int) sm ss um us z p lo hi) (fun _ => zs) (fun _ => bs) := by
  refine ⟨Nat.le_refl _, by unfold maxLen; omega, (fun h => by cases h), fun x hx i hii => ?_⟩
  cases hx
  obtain rfl : i = 0 := by omega
  rw [show ((⟨g, 0, none⟩ : Addr).add (0 * 22)) = ⟨g, 0, none⟩ by rw [Addr.add_lit]]
  exact ⟨wa, lw, wc, ba, lb, bc, rfl, rfl, ecells (cs := [.int .i64 k, .int .i64 0, .int .i64 b, .int .i64 m, .int .i64 kh, .int .i64 kw, .int .i64 sh, .int .i64 sw, .int .i64 tp, .int .i64 lf, .int .i64 bo, .int .i64 rt, .slice wa lw wc, .slice ba lb bc, .int .i64 sm, .int .i64 ss, .int .i64 um, .int .i64 us, .int .i64 z, .int .i64 p, .int .i64 lo, .int .i64 hi]) hg, hZ, hB, hlw, hlb⟩
/-- Length of the op alone. -/
theorem len_alone (k a b m kh kw sh sw tp lf bo rt : Int) (wa : Option Addr) (lw wc : Nat) (ba : Option Addr) (lb bc : Nat) (sm ss um us z p lo hi h w c : Int) (H V C : Int) (hd : rdB k = true → Opd k b m kh kw sh sw tp lf bo rt lw lb sm ss um us z p lo hi h w c H V C) (zs bs : List Int) (W : World) (hZ : IRow .i16 W wa lw wc zs) (hB : IRow .i32 W ba lb bc bs) (hlw : lw * 2 ≤ 140737488351232) (hlb : lb * 4 ≤ 140737488351232) (g : Nat) (hg : W.heap[g]? = some (.cells #[.int .i64 k, .int .i64 0, .int .i64 b, .int .i64 m, .int .i64 kh, .int .i64 kw, .int .i64 sh, .int .i64 sw, .int .i64 tp, .int .i64 lf, .int .i64 bo, .int .i64 rt, .slice wa lw wc, .slice ba lb bc, .int .i64 sm, .int .i64 ss, .int .i64 um, .int .i64 us, .int .i64 z, .int .i64 p, .int .i64 lo, .int .i64 hi] 70 (0, 0))) :
    Calls Try.prog 42 #[.agg #[.int .i64 h, .int .i64 w, .int .i64 c, .int .i64 0, .int .i64 0, .slice (some ⟨g, 0, none⟩) 1 1, .int .i64 0], .int .i64 1] W fun e w' => ∃ E, e = .returned (.tuple #[.int .i64 (if rdB k = true then stR k kh kw h w c else 0), .int .i64 E]) ∧ Below W.heap.size W w' := by
  have hL := lrow_alone k a b m kh kw sh sw tp lf bo rt wa lw wc ba lb bc sm ss um us z p lo hi h w c zs bs W hZ hB hlw hlb g hg
  cases hk : rdB k with
  | true =>
    have s := hd hk
    have hk4 : 1 ≤ k ∧ k ≤ 4 := of_decide_eq_true hk
    obtain ⟨Rw, hR⟩ := alone_g (a := 0) s hk4.2
    have e0 : ((⟨g, 0, none⟩ : Addr).add (0 * 22)) = ⟨g, 0, none⟩ := by rw [Addr.add_lit]
    have hF : Fnd W (some ⟨g, 0, none⟩) 1 (fun _ => oL k 0 b m kh kw sh sw tp lf bo rt (lw : Int) (lb : Int) sm ss um us z p lo hi) (fun _ => zs) (fun _ => bs) [(h, w, c), (H, V, C)] 0 ⟨g, 0, none⟩ wa lw wc ba lb bc h w c H V C :=
      ⟨by omega, rfl, rfl, rfl, fun q v hq => by rw [e0]; exact ecells (cs := [.int .i64 k, .int .i64 0, .int .i64 b, .int .i64 m, .int .i64 kh, .int .i64 kw, .int .i64 sh, .int .i64 sw, .int .i64 tp, .int .i64 lf, .int .i64 bo, .int .i64 rt, .slice wa lw wc, .slice ba lb bc, .int .i64 sm, .int .i64 ss, .int .i64 um, .int .i64 us, .int .i64 z, .int .i64 p, .int .i64 lo, .int .i64 hi]) hg q v hq, hZ, hB, rfl, rfl, s.si hk4.2, ⟨Int.le_refl _, Int.le_refl _⟩, hk⟩
    rw [if_pos rfl]
    exact (lenT_ok h w c 0 0 0 (some ⟨g, 0, none⟩) 1 1 (fun _ => oL k 0 b m kh kw sh sw tp lf bo rt (lw : Int) (lb : Int) sm ss um us z p lo hi) (fun _ => zs) (fun _ => bs) W hL _ Rw hR 0 ⟨g, 0, none⟩ wa lw wc ba lb bc h w c H V C hF).mono fun e w' q => ⟨0, q.1, q.2⟩
  | false =>
    rw [if_neg (by decide)]
    have hE : fiE (fun _ => oL k 0 b m kh kw sh sw tp lf bo rt (lw : Int) (lb : Int) sm ss um us z p lo hi) h w c 0 0 0 1 1 ≠ 0 := by
      by_cases q : (gtR (fun _ => oL k 0 b m kh kw sh sw tp lf bo rt (lw : Int) (lb : Int) sm ss um us z p lo hi) h w c 0 0 0 1).1 = 0
      · have : fiE (fun _ => oL k 0 b m kh kw sh sw tp lf bo rt (lw : Int) (lb : Int) sm ss um us z p lo hi) h w c 0 0 0 1 (((0 : Nat) : Int) + 1) = 81 := fiE_81 q (by omega) hk
        rw [show (((0 : Nat) : Int) + 1) = 1 by decide] at this
        rw [this]; decide
      · rw [fiE_err rfl q]; exact q
    exact (lenT_bad h w c 0 0 0 (some ⟨g, 0, none⟩) 1 1 (fun _ => oL k 0 b m kh kw sh sw tp lf bo rt (lw : Int) (lb : Int) sm ss um us z p lo hi) (fun _ => zs) (fun _ => bs) W hL 1 _ rfl hE).mono fun e w' q => ⟨_, q.1, q.2⟩
set_option maxHeartbeats 4000000 in
set_option maxRecDepth 100000 in
theorem clof_any (k a b m kh kw sh sw tp lf bo rt : Int) (wa : Option Addr) (lw wc : Nat) (ba : Option Addr) (lb bc : Nat) (sm ss um us z p lo hi h w c : Int) (H V C : Int) (hd : rdB k = true → Opd k b m kh kw sh sw tp lf bo rt lw lb sm ss um us z p lo hi h w c H V C) (zs bs : List Int) (W : World) (hZ : IRow .i16 W wa lw wc zs) (hB : IRow .i32 W ba lb bc bs) (hlw : lw * 2 ≤ 140737488351232) (hlb : lb * 4 ≤ 140737488351232) (g n cap ja : Nat) (ha : a = (ja : Int)) (hja : ja < n) (hn : n ≤ cap) (hc : cap ≤ 9223372036854775807)
    (hcell : ∀ j u, [Value.int .i64 h, .int .i64 w, .int .i64 c][j]? = some u → W.cell? ((⟨g, ja * 3, none⟩ : Addr).add j) = some u) :
    Calls Try.prog 21 #[.agg #[.int .i64 k, .int .i64 a, .int .i64 b, .int .i64 m, .int .i64 kh, .int .i64 kw, .int .i64 sh, .int .i64 sw, .int .i64 tp, .int .i64 lf, .int .i64 bo, .int .i64 rt, .slice wa lw wc, .slice ba lb bc, .int .i64 sm, .int .i64 ss, .int .i64 um, .int .i64 us, .int .i64 z, .int .i64 p, .int .i64 lo, .int .i64 hi], .slice (some ⟨g, 0, none⟩) n cap] W fun e w' => e = .returned (.int .i64 (if rdB k = true then stR k kh kw h w c else 0)) ∧ Below W.heap.size W w' := by
  subst ha
  obtain ⟨a, ha⟩ : ∃ a : Int, a = (ja : Int) := ⟨_, rfl⟩
  obtain ⟨L, hL⟩ : ∃ L, (if rdB k = true then stR k kh kw h w c else 0) = L := ⟨_, rfl⟩
  have HC : Hid (∀ (W' : World) (g : Nat), Below W.heap.size W W' → W'.heap[g]? = some (.cells #[.int .i64 k, .int .i64 0, .int .i64 b, .int .i64 m, .int .i64 kh, .int .i64 kw, .int .i64 sh, .int .i64 sw, .int .i64 tp, .int .i64 lf, .int .i64 bo, .int .i64 rt, .slice wa lw wc, .slice ba lb bc, .int .i64 sm, .int .i64 ss, .int .i64 um, .int .i64 us, .int .i64 z, .int .i64 p, .int .i64 lo, .int .i64 hi] 70 (0, 0)) → _) := fun (W' : World) (g : Nat) hb hg => len_alone k a b m kh kw sh sw tp lf bo rt wa lw wc ba lb bc sm ss um us z p lo hi h w c H V C hd zs bs W' (hZ.below hb) (hB.below hb) hlw hlb g hg
  rw [hL] at HC ⊢
  have s0 := (((St.start W).new (c := #[.int .i64 k, .int .i64 0, .int .i64 b, .int .i64 m, .int .i64 kh, .int .i64 kw, .int .i64 sh, .int .i64 sw, .int .i64 tp, .int .i64 lf, .int .i64 bo, .int .i64 rt, .slice wa lw wc, .slice ba lb bc, .int .i64 sm, .int .i64 ss, .int .i64 um, .int .i64 us, .int .i64 z, .int .i64 p, .int .i64 lo, .int .i64 hi]) (t := 70)).new (c := #[.int .i64 h, .int .i64 w, .int .i64 c]) (t := 23)).new (c := #[.int .i64 k, .int .i64 0, .int .i64 b, .int .i64 m, .int .i64 kh, .int .i64 kw, .int .i64 sh, .int .i64 sw, .int .i64 tp, .int .i64 lf, .int .i64 bo, .int .i64 rt, .slice wa lw wc, .slice ba lb bc, .int .i64 sm, .int .i64 ss, .int .i64 um, .int .i64 us, .int .i64 z, .int .i64 p, .int .i64 lo, .int .i64 hi]) (t := 70)
  simp only [World.size_alloc] at s0
  have Hc : Hid (∀ j u, [Value.int .i64 h, .int .i64 w, .int .i64 c][j]? = some u → W.cell? ((⟨g, ja * 3, none⟩ : Addr).add j) = some u) := hcell
  clear hd hZ hB hL hcell ha
  clear a
  go_enter Try.func21, Try.ntmps21
  go_upto_region 2 with (first
    | (refine wpList_load_any rfl 23 (.tmp 11) rfl _ rfl [.int .i64 h, .int .i64 w, .int .i64 c] _ (fun j u hj => ((bal W _).cell (World.block_lt_of_cell? W _ (Hc.out j u hj))).trans (Hc.out j u hj)) Try.underlying23 rfl (by kernel_rfl) ?_))
  go_upto_region 3 with fail
  obtain ⟨w2, hw2⟩ : ∃ w2, (W.alloc (.cells #[.int .i64 k, .int .i64 0, .int .i64 b, .int .i64 m, .int .i64 kh, .int .i64 kw, .int .i64 sh, .int .i64 sw, .int .i64 tp, .int .i64 lf, .int .i64 bo, .int .i64 rt, .slice wa lw wc, .slice ba lb bc, .int .i64 sm, .int .i64 ss, .int .i64 um, .int .i64 us, .int .i64 z, .int .i64 p, .int .i64 lo, .int .i64 hi] 70)).alloc (.cells #[.int .i64 h, .int .i64 w, .int .i64 c] 23) = w2 := ⟨_, rfl⟩
  have s2 := ((St.start W).new (c := #[.int .i64 k, .int .i64 0, .int .i64 b, .int .i64 m, .int .i64 kh, .int .i64 kw, .int .i64 sh, .int .i64 sw, .int .i64 tp, .int .i64 lf, .int .i64 bo, .int .i64 rt, .slice wa lw wc, .slice ba lb bc, .int .i64 sm, .int .i64 ss, .int .i64 um, .int .i64 us, .int .i64 z, .int .i64 p, .int .i64 lo, .int .i64 hi]) (t := 70)).new (c := #[.int .i64 h, .int .i64 w, .int .i64 c]) (t := 23)
  simp only [World.size_alloc] at s2
  rw [hw2] at s2 ⊢
  rw [hw2] at s0
  have h1 := s2.h1
  have h2 := s2.h2
  clear hw2 s2
  go_wp2_with (first
    | (refine wpList_load_row rfl 23 (.tmp 5) rfl _ rfl 23 _ (0, 0) _ h1 Try.underlying23 rfl (by kernel_rfl) ?_)
    | (refine wpList_load_row rfl 70 (.tmp 2) rfl _ rfl 70 _ (0, 0) _ h2 Try.underlying70 rfl (by kernel_rfl) ?_))
  refine (HC.out _ _ s0.below (heap_alloc_new w2 _)).mono ?_
  rintro e w1 ⟨E, rfl, hb⟩
  have s1 : Hid (St W w1 _) := s0.call hb
  clear hb s0
  go_wp2
  go_ret
  exact ⟨rfl, s1.out.below⟩
end Go.Proofs.Ytcjnhchjikcigaa

/- What Cost of package cert returns. -/
namespace Go.Proofs.Ytcjnhchjikcigaa
open Go.ChangeShapes Go.WideShapes Go.ChangeAt Go.RowKit
set_option linter.unusedVariables false
/-- The length of op i, its positions. -/
def leN (O : Nat → Nat → Int) (RL : List (Int × Int × Int)) (i : Nat) : Int := if rdB (O i 0) = true then stR (O i 0) (O i 4) (O i 5) (RL.getD (O i 1).toNat (0, 0, 0)).1 (RL.getD (O i 1).toNat (0, 0, 0)).2.1 (RL.getD (O i 1).toNat (0, 0, 0)).2.2 else 0
def poN (RL : List (Int × Int × Int)) (i : Nat) : Int := (RL.getD (i + 1) (0, 0, 0)).1 * (RL.getD (i + 1) (0, 0, 0)).2.1
theorem co_facts {O : Nat → Nat → Int} {h w c lo hi ot wk : Int} {on : Nat} {L : List (Int × Int × Int)} (q : gtR O h w c lo hi ot on = (0, 0, L, wk)) {i : Nat} (hi0 : i < on) :
    (0 ≤ leN O L i ∧ leN O L i ≤ 512) ∧ (1 ≤ poN L i ∧ poN L i ≤ 1048576) ∧ 0 ≤ leN O L i * poN L i ∧ nuP O L i * (leN O L i * poN L i) ≤ 8388608 ∧ (rdB (O i 0) = true → 1 ≤ leN O L i) ∧ 0 ≤ nuP O L i := by
  obtain ⟨ja, jb, h1, h2, h3, h4, hd⟩ := opd_of q hi0
  obtain ⟨x, y, v, hA⟩ : ∃ x y v, L.getD ja (0, 0, 0) = (x, y, v) := ⟨_, _, _, rfl⟩
  obtain ⟨H, V, C, hB⟩ : ∃ H V C, L.getD (i + 1) (0, 0, 0) = (H, V, C) := ⟨_, _, _, rfl⟩
  obtain ⟨s, -⟩ := hd x y v H V C hA hB
  obtain ⟨b1, b2⟩ := vS_bd s.hB
  obtain ⟨c1, c2, c3, c4⟩ := vS_yes s.hB
  have hja : (O i 1).toNat = ja := by rw [h1]; rfl
  unfold leN poN nuP
  rw [hja, hA, hB]
  simp only
  cases hk : rdB (O i 0) with
  | false =>
    simp only [Bool.false_eq_true, if_false, false_implies, Int.zero_mul]
    exact ⟨by omega, by omega, by omega, by omega, trivial, by omega⟩
  | true =>
    simp only [if_true]
    have hk4 : 1 ≤ O i 0 ∧ O i 0 ≤ 4 := of_decide_eq_true hk
    obtain ⟨-, -, -, -, -, -, -, -, st0, st1⟩ := s.si hk4.2
    obtain ⟨st, hst⟩ : ∃ st, stR (O i 0) (O i 4) (O i 5) x y v = st := ⟨_, rfl⟩
    rw [hst] at st0 st1 ⊢
    have e : C * (st * (H * V)) = st * (H * V * C) := by rw [Int.mul_comm C, Int.mul_assoc, Int.mul_assoc]
    rw [e]
    have m1 : st * (H * V * C) ≤ 512 * 16384 := Int.mul_le_mul st1 b2.2 (by omega) (by omega)
    exact ⟨by omega, by omega, Int.mul_nonneg (by omega) (by omega), by omega, fun _ => by omega, by omega⟩
theorem St.row {w0 w : World} {B : Nat} {c : Array Value} {t : TypeId} {l : List (Nat × Array Value × TypeId)} (h : St w0 w ((B, c, t) :: l)) (d : Array Value) (hl : ∀ x ∈ l, x.1 ≠ B) : St w0 (w.setRow B d) ((B, d, t) :: l) := by
  refine ⟨below_setRow h.1 (h.2 _ List.mem_cons_self).2 d, fun x hx => ?_⟩
  rcases List.mem_cons.1 hx with rfl | hx
  · exact ⟨setRow_heap w B c d t (0, 0) (h.2 _ List.mem_cons_self).1, (h.2 _ List.mem_cons_self).2⟩
  · have := h.2 x (List.mem_cons_of_mem _ hx)
    exact ⟨by rw [setRow_other w B x.1 d (hl x hx)]; exact this.1, this.2⟩
theorem results_row_row {P : Program} {fn : Func} {p u : Tmp} {ty ty' : TypeId} (h : fn.results = #[.cell p ty, .cell u ty']) (tmps : Array Value) (w : World) (g g' : Nat) (t t' : TypeId) (cs cs' : Array Value) (d d' : TypeDesc)
    (hp : tmps.getD p undef = .pointer (some ⟨g, 0, none⟩)) (hp' : tmps.getD u undef = .pointer (some ⟨g', 0, none⟩)) (hg : w.heap[g]? = some (.cells cs t (0, 0))) (hg' : w.heap[g']? = some (.cells cs' t' (0, 0)))
    (hu : P.underlying ty = some d) (hd : (match d with | .struct _ | .array _ _ => true | _ => false) = true) (hi : (P.info? ty).map (·.size) = some cs.size)
    (hu' : P.underlying ty' = some d') (hd' : (match d' with | .struct _ | .array _ _ => true | _ => false) = true) (hi' : (P.info? ty').map (·.size) = some cs'.size) :
    (results fn tmps).run P w = .ok (.tuple #[.agg cs, .agg cs']) w := by
  have e1 : tmps[p]?.getD undef = .pointer (some ⟨g, 0, none⟩) := by simpa using hp
  have e2 : tmps[u]?.getD undef = .pointer (some ⟨g', 0, none⟩) := by simpa using hp'
  simp only [results, h]
  simp [Sem.run_bind, Result.andThen, e1, e2, asAddr, run_loadVar_row w g t ty cs (0, 0) d hg hu hd hi, run_loadVar_row w g' t' ty' cs' (0, 0) d' hg' hu' hd' hi']
set_option maxHeartbeats 4000000 in
set_option maxRecDepth 100000 in
theorem ccost_f (h w c lo hi ot : Int) (oa : Option Addr) (on oc : Nat) (O : Nat → Nat → Int) (ra : Option Addr) (rn rc : Nat) (R : List (Int × Int)) (pa : Option Addr) (pn pc : Nat) (P : List (List Pl)) (W : World) (hM : MRow W oa on oc O) (hR : ERow 2 scs W ra rn rc R) (hP : QRow W pa pn pc P) (hrn : rn ≤ 140737488351232) (hpn : pn ≤ 140737488351232) (Re Ra Rw : Int) (RL : List (Int × Int × Int)) (hG : gtR O h w c lo hi ot on = (Re, Ra, RL, Rw)) (x1 x2 x3 : Int) (hX : foE Re Ra on (nuP O RL) R P = (x1, x2, x3)) (h0 : x1 ≠ 0) :
    Calls Try.prog 9 #[.agg #[.int .i64 h, .int .i64 w, .int .i64 c, .int .i64 lo, .int .i64 hi, .slice oa on oc, .int .i64 ot], .agg #[.slice ra rn rc, .slice pa pn pc]] W fun e w' => e = .returned (.tuple #[.agg #[.int .i64 0, .int .i64 0, .int .i64 0, .int .i64 0, .int .i64 0, .int .i64 0, .int .i64 0, .int .i64 0, .int .i64 0], .agg #[.int .i64 x1, .int .i64 x2, .int .i64 x3]]) ∧ Below W.heap.size W w' := by
  have HF : Hid (∀ w', Below W.heap.size W w' → _) := fun w' hb => cform_any h w c lo hi ot oa on oc O ra rn rc R pa pn pc P w' (hM.below hb) (hR.below hb) (hP.below hb) hrn hpn Re Ra Rw RL hG x1 x2 x3 hX
  have qm := neFo 39 rfl x1 x2 x3 0 0 0 false (decide_eq_false (fun q => h0 q.1))
  clear hM hR hP hG hX h0
  have s0 := ((((St.start W).new (c := #[.int .i64 h, .int .i64 w, .int .i64 c, .int .i64 lo, .int .i64 hi, .slice oa on oc, .int .i64 ot]) (t := 26)).new (c := #[.slice ra rn rc, .slice pa pn pc]) (t := 30)).new (c := #[.int .i64 0, .int .i64 0, .int .i64 0, .int .i64 0, .int .i64 0, .int .i64 0, .int .i64 0, .int .i64 0, .int .i64 0]) (t := 36)).new (c := #[.int .i64 0, .int .i64 0, .int .i64 0]) (t := 39)
  simp only [World.size_alloc] at s0
  go_enter Try.func9, Try.ntmps9
  go_wp2_with fail
  refine (HF.out _ s0.below).mono ?_
  rintro e w1 ⟨rfl, hb⟩
  have s1 := (s0.call hb).new (c := #[.int .i64 x1, .int .i64 x2, .int .i64 x3]) (t := 39)
  have zz := (s0.call hb).size
  obtain ⟨-, -, z0, -⟩ := (s0.call hb).rules
  clear hb s0
  go_upto_region 3 with fail
  obtain ⟨B, hB⟩ : ∃ B, w1.heap.size = B := ⟨_, rfl⟩
  obtain ⟨w2, hw2⟩ : ∃ w2, w1.alloc (.cells #[.int .i64 x1, .int .i64 x2, .int .i64 x3] 39) = w2 := ⟨_, rfl⟩
  rw [hw2, hB] at s1
  rw [hw2, hB]
  rw [hB] at zz z0
  clear hw2 hB qm
  have S2 : Hid (St W w2.drew _) := s1.drew
  clear s1
  refine regionC (fun w' => w'.heap[B]? = some (.cells #[.int .i64 x1, .int .i64 x2, .int .i64 x3] 39 (0, 0))) (by kernel_rfl) ?_
  refine takeC 0 (v := .agg #[.int .i64 0, .int .i64 0, .int .i64 0, .int .i64 0, .int .i64 0, .int .i64 0, .int .i64 0, .int .i64 0, .int .i64 0]) rfl rfl (by kernel_rfl) (by kernel_rfl) (by kernel_rfl) (fun _ _ _ h => h) (fun _ => rfl) rfl (fun w' hw' => by kernel_rfl) ?_
  refine takeC 1 (v := .agg #[.int .i64 x1, .int .i64 x2, .int .i64 x3]) rfl rfl (by kernel_rfl) (by kernel_rfl) (by kernel_rfl) (fun _ _ _ h => h) (fun _ => rfl) rfl (fun w' hw' => run_la 39 (.tmp 6) rfl ⟨B, 0, none⟩ (by kernel_rfl) [.int .i64 x1, .int .i64 x2, .int .i64 x3] _ (ecells hw') Try.underlying39 rfl (by kernel_rfl)) ?_
  obtain ⟨w3, hw3⟩ : ∃ w3, w2.drew = w3 := ⟨_, rfl⟩
  rw [hw3] at S2 ⊢
  clear hw3
  refine stepC 2 S2.out.h1 (by kernel_rfl) rfl (fun K hK => step_wp rfl (wp_store_row 36 (.tmp 4) (.tmp 24) rfl (W.heap.size + 1 + 1) #[.int .i64 0, .int .i64 0, .int .i64 0, .int .i64 0, .int .i64 0, .int .i64 0, .int .i64 0, .int .i64 0, .int .i64 0] (by kernel_rfl) (by kernel_rfl) 36 #[.int .i64 0, .int .i64 0, .int .i64 0, .int .i64 0, .int .i64 0, .int .i64 0, .int .i64 0, .int .i64 0, .int .i64 0] S2.out.h3 (by kernel_rfl) rfl (by simp [Value.oneCell']) (hK _ _ ?_)))
  have S4 := (S2.out.sub (l' := [(W.heap.size + 1 + 1, #[.int .i64 0, .int .i64 0, .int .i64 0, .int .i64 0, .int .i64 0, .int .i64 0, .int .i64 0, .int .i64 0, .int .i64 0], 36), (B, #[.int .i64 x1, .int .i64 x2, .int .i64 x3], 39), (W.heap.size + 1 + 1 + 1, #[.int .i64 0, .int .i64 0, .int .i64 0], 39)]) (by simp)).row #[.int .i64 0, .int .i64 0, .int .i64 0, .int .i64 0, .int .i64 0, .int .i64 0, .int .i64 0, .int .i64 0, .int .i64 0] (by simp; omega)
  obtain ⟨w4, hw4⟩ : ∃ w4, w3.setRow (W.heap.size + 1 + 1) #[.int .i64 0, .int .i64 0, .int .i64 0, .int .i64 0, .int .i64 0, .int .i64 0, .int .i64 0, .int .i64 0, .int .i64 0] = w4 := ⟨_, rfl⟩
  rw [hw4] at S4 ⊢
  have S5 : Hid (St W w4 _) := S4
  clear hw4 S4 S2
  refine stepC 3 S5.out.h2 (by kernel_rfl) rfl (fun K hK => step_wp rfl (wp_store_row 39 (.tmp 5) (.tmp 25) rfl (W.heap.size + 1 + 1 + 1) #[.int .i64 x1, .int .i64 x2, .int .i64 x3] (by kernel_rfl) (by kernel_rfl) 39 #[.int .i64 0, .int .i64 0, .int .i64 0] S5.out.h3 (by kernel_rfl) rfl (by simp [Value.oneCell']) (hK _ _ ?_)))
  have S6 := (S5.out.sub (l' := [(W.heap.size + 1 + 1 + 1, #[.int .i64 0, .int .i64 0, .int .i64 0], 39), (W.heap.size + 1 + 1, #[.int .i64 0, .int .i64 0, .int .i64 0, .int .i64 0, .int .i64 0, .int .i64 0, .int .i64 0, .int .i64 0, .int .i64 0], 36), (B, #[.int .i64 x1, .int .i64 x2, .int .i64 x3], 39)]) (by simp)).row #[.int .i64 x1, .int .i64 x2, .int .i64 x3] (by simp; omega)
  obtain ⟨w5, hw5⟩ : ∃ w5, w4.setRow (W.heap.size + 1 + 1 + 1) #[.int .i64 x1, .int .i64 x2, .int .i64 x3] = w5 := ⟨_, rfl⟩
  rw [hw5] at S6 ⊢
  have S7 : Hid (St W w5 _) := S6
  clear hw5 S6 S5
  refine doneC S7.out.h3 (by kernel_rfl) ?_ _
  go_wp2
  exact bodyPost_ret (results_row_row Try.results9 _ _ (W.heap.size + 1 + 1) (W.heap.size + 1 + 1 + 1) 36 39 _ _ _ _ (by kernel_rfl) (by kernel_rfl) S7.out.h2 S7.out.h1 Try.underlying36 rfl (by kernel_rfl) Try.underlying39 rfl (by kernel_rfl)) rfl ⟨rfl, S7.out.below⟩
end Go.Proofs.Ytcjnhchjikcigaa

/- What Cost of package cert returns, of a certificate that has the form. -/
namespace Go.Proofs.Ytcjnhchjikcigaa
open Go.ChangeShapes Go.WideShapes Go.ChangeAt Go.RowKit
set_option linter.unusedVariables false
theorem shp_cap {w : World} {base : Nat} {a : Option Addr} {n cap : Nat} {L : List (Int × Int × Int)} (h : Shp w base (.slice a n cap) L) : cap ≤ 9223372036854775807 := by
  rcases h with ⟨q, -⟩ | ⟨g, cap', cur, q1, q2, q3, q4, q5⟩
  · cases q; omega
  · cases q1
    omega
set_option maxHeartbeats 8000000 in
set_option maxRecDepth 100000 in
theorem ccost_w (h w c lo hi ot : Int) (oa : Option Addr) (on oc : Nat) (O : Nat → Nat → Int) (Z B : Nat → List Int) (ra : Option Addr) (rn rc : Nat) (R : List (Int × Int)) (pa : Option Addr) (pc : Nat) (P : List (List Pl)) (W : World) (hL : LRow W oa on oc O Z B) (hR : ERow 2 scs W ra rn rc R) (hP : QRow W pa on pc P) (hrn : rn ≤ 140737488351232) (Rw : Int) (RL : List (Int × Int × Int)) (hG : gtR O h w c lo hi ot on = (0, 0, RL, Rw)) (hX : foE 0 0 on (nuP O RL) R P = (0, 0, 0)) (y1 y2 y3 y4 e1 e2 e3 : Int) (hY : coP (leN O RL) (poN RL) P 0 (0, 0, 0, 0) = ((y1, y2, y3, y4), e1, e2, e3)) :
    Calls Try.prog 9 #[.agg #[.int .i64 h, .int .i64 w, .int .i64 c, .int .i64 lo, .int .i64 hi, .slice oa on oc, .int .i64 ot], .agg #[.slice ra rn rc, .slice pa on pc]] W fun e w' => e = .returned (.tuple #[.agg #[.int .i64 y1, .int .i64 y2, .int .i64 y3, .int .i64 y4, .int .i64 0, .int .i64 0, .int .i64 0, .int .i64 0, .int .i64 0], .agg #[.int .i64 e1, .int .i64 e2, .int .i64 e3]]) ∧ Below W.heap.size W w' := by
  obtain ⟨-, hRl, ho64, -, -, -⟩ := gtR_ok hG
  have HF : Hid (∀ w', Below W.heap.size W w' → _) := fun w' hb => cform_any h w c lo hi ot oa on oc O ra rn rc R pa on pc P w' (hL.m.below hb) (hR.below hb) (hP.below hb) hrn (by omega) 0 0 Rw RL hG 0 0 0 hX
  have hS : Hid (∀ W, MRow W oa on oc O → _) := fun W hW => shapes_any h w c lo hi ot oa on oc O W hW
  rw [hG] at hS
  simp only at hS
  have hG2 : Hid (gtR O h w c lo hi ot on = (0, 0, RL, Rw)) := hG
  have HL : Hid (LRow W oa on oc O Z B) := hL
  have HP : Hid (QRow W pa on pc P) := hP
  have HN : Hid (∀ j l, P[j]? = some l → (l.length : Int) = nuP O RL j) := fun j l hj => by
    have q := (foE_0 (show (foE 0 0 on (nuP O RL) R P).1 = 0 by rw [hX]) (fun _ => rfl)).2.2.2.2.2
    have := psE_len P 0 q j l hj
    rwa [Nat.zero_add] at this
  have HY : Hid (coP (leN O RL) (poN RL) P 0 (0, 0, 0, 0) = ((y1, y2, y3, y4), e1, e2, e3)) := hY
  have m1 := hL.1
  have m2 := hL.2.1
  have m5 := hP.2.1
  have m6 := hP.2.2.1
  unfold maxLen at m2 m6
  have qn := neFo 39 rfl 0 0 0 0 0 0 true (by decide)
  clear hG hL hR hP hX hY
  have s0 := ((((St.start W).new (c := #[.int .i64 h, .int .i64 w, .int .i64 c, .int .i64 lo, .int .i64 hi, .slice oa on oc, .int .i64 ot]) (t := 26)).new (c := #[.slice ra rn rc, .slice pa on pc]) (t := 30)).new (c := #[.int .i64 0, .int .i64 0, .int .i64 0, .int .i64 0, .int .i64 0, .int .i64 0, .int .i64 0, .int .i64 0, .int .i64 0]) (t := 36)).new (c := #[.int .i64 0, .int .i64 0, .int .i64 0]) (t := 39)
  simp only [World.size_alloc] at s0
  go_enter Try.func9, Try.ntmps9
  go_wp2_with fail
  refine (HF.out _ s0.below).mono ?_
  rintro e w1 ⟨rfl, hb⟩
  have s1 := (s0.call hb).call (bal w1 (.cells #[.int .i64 0, .int .i64 0, .int .i64 0] 39))
  obtain ⟨c1, f1, z1, c2, f2, z2, c3, f3, z3, c4, f4, z4, -⟩ := (s0.call hb).rules
  clear hb s0 HF
  go_upto_region 4 with fail
  obtain ⟨w2, hw2⟩ : ∃ w2, w1.alloc (.cells #[.int .i64 0, .int .i64 0, .int .i64 0] 39) = w2 := ⟨_, rfl⟩
  rw [hw2] at s1 ⊢
  clear hw2 c1 f1 z1 c2 f2 z2 c3 f3 z3 c4 f4 z4
  obtain ⟨c1, f1, z1, c2, f2, z2, c3, f3, z3, c4, f4, z4, -⟩ := s1.rules
  go_wp2_with fail
  refine Calls.mono (hS.out _ (HL.out.m.below s1.below)) ?_
  rintro e w3 ⟨v, rfl, hSh, hb⟩
  have s3 := (s1.call hb).call (bal w3 (.cells #[.int .i64 0, .int .i64 0, .int .i64 0] 39))
  obtain ⟨g, cap, rfl, hcap, hsh⟩ := shp_at hSh hRl
  have hcapm : cap ≤ 9223372036854775807 := shp_cap hSh
  have HSH : Hid (∀ i, i < on + 1 → ∀ A B C, RL.getD i (0, 0, 0) = (A, B, C) → ∀ j u, [Value.int .i64 A, .int .i64 B, .int .i64 C][j]? = some u → (w3.alloc (.cells #[.int .i64 0, .int .i64 0, .int .i64 0] 39)).cell? ((⟨g, i * 3, none⟩ : Addr).add j) = some u) := fun i hi A B C e j u hj => by
    have := hsh i hi A B C e j u hj
    exact ((bal w3 _).cell (World.block_lt_of_cell? w3 _ this)).trans this
  clear c1 f1 z1 c2 f2 z2 c3 f3 z3 c4 f4 z4
  obtain ⟨c1, f1, z1, c2, f2, z2, c3, f3, z3, c4, f4, z4, -⟩ := (s1.call hb).rules
  clear hb hSh s1 hRl hsh hS
  go_upto_region 5 with fail
  obtain ⟨wS, hwS⟩ : ∃ wS, w3.alloc (.cells #[.int .i64 0, .int .i64 0, .int .i64 0] 39) = wS := ⟨_, rfl⟩
  rw [hwS] at s3 HSH ⊢
  clear hwS c1 f1 z1 c2 f2 z2 c3 f3 z3 c4 f4 z4
  have S1 : Hid (St W wS ([(W.heap.size + 1 + 1 + 1, #[.int .i64 0, .int .i64 0, .int .i64 0], 39), (W.heap.size + 1 + 1, #[.int .i64 0, .int .i64 0, .int .i64 0, .int .i64 0, .int .i64 0, .int .i64 0, .int .i64 0, .int .i64 0, .int .i64 0], 36), (W.heap.size + 1, #[.slice ra rn rc, .slice pa on pc], 30), (W.heap.size, #[.int .i64 h, .int .i64 w, .int .i64 c, .int .i64 lo, .int .i64 hi, .slice oa on oc, .int .i64 ot], 26)])) := s3
  obtain ⟨c1, f1, z1, c2, f2, z2, c3, f3, z3, c4, f4, z4, -⟩ := s3.rules
  clear s3
  have ST : Hid (St wS _ [(wS.heap.size, #[.int .i64 0, .int .i64 0, .int .i64 0, .int .i64 0, .int .i64 0, .int .i64 0, .int .i64 0, .int .i64 0, .int .i64 0], 36)]) := (St.start wS).new (c := #[.int .i64 0, .int .i64 0, .int .i64 0, .int .i64 0, .int .i64 0, .int .i64 0, .int .i64 0, .int .i64 0, .int .i64 0]) (t := 36)
  go_wp2
  go_loopw [34] (fun i wr => ∃ (k : Nat) (t1 t2 t3 t4 : Int), k ≤ on ∧ i = .int .i64 k ∧ coP (leN O RL) (poN RL) (P.drop k) k (t1, t2, t3, t4) = ((y1, y2, y3, y4), e1, e2, e3) ∧ Tb (t1, t2, t3, t4) ((k : Int) * 8388608) ∧ St wS wr [(wS.heap.size, #[.int .i64 t1, .int .i64 t2, .int .i64 t3, .int .i64 t4, .int .i64 0, .int .i64 0, .int .i64 0, .int .i64 0, .int .i64 0], 36)]) (fun i _ => on - (intOf i).toNat)
  case atStart => exact ⟨0, 0, 0, 0, 0, Nat.zero_le _, rfl, by simpa using HY.out, by unfold Tb; simp, ST.out⟩
  case round =>
    clear c1 f1 c2 f2 c3 f3 c4 f4
    obtain ⟨i, t1, t2, t3, t4, hi0, rfl, hp, htb, sr⟩ := hrel
    by_cases hlt : i < on
    rotate_left
    · rw [List.drop_of_length_le (by rw [HP.out.1]; omega)] at hp
      unfold coP at hp
      simp only [Prod.mk.injEq] at hp
      obtain ⟨⟨rfl, rfl, rfl, rfl⟩, rfl, rfl, rfl⟩ := hp
      have S4 : Hid (St W wr ([(W.heap.size + 1 + 1 + 1, #[.int .i64 0, .int .i64 0, .int .i64 0], 39), (W.heap.size + 1 + 1, #[.int .i64 0, .int .i64 0, .int .i64 0, .int .i64 0, .int .i64 0, .int .i64 0, .int .i64 0, .int .i64 0, .int .i64 0], 36), (W.heap.size + 1, #[.slice ra rn rc, .slice pa on pc], 30), (W.heap.size, #[.int .i64 h, .int .i64 w, .int .i64 c, .int .i64 lo, .int .i64 hi, .slice oa on oc, .int .i64 ot], 26)])) := S1.out.call sr.below
      have h9 : Hid (wr.heap[wS.heap.size]? = some (.cells #[.int .i64 t1, .int .i64 t2, .int .i64 t3, .int .i64 t4, .int .i64 0, .int .i64 0, .int .i64 0, .int .i64 0, .int .i64 0] 36 (0, 0))) := sr.h1
      clear sr htb ST HY
      go_wp2_with (first
        | (refine wpList_load_row rfl 36 (.tmp 9) rfl _ rfl 36 _ (0, 0) _ h9.out Try.underlying36 rfl (by kernel_rfl) ?_)
        | (refine wpList_store_row rfl 36 (.tmp 4) (.tmp 87) rfl (W.heap.size + 1 + 1) #[.int .i64 t1, .int .i64 t2, .int .i64 t3, .int .i64 t4, .int .i64 0, .int .i64 0, .int .i64 0, .int .i64 0, .int .i64 0] rfl rfl 36 #[.int .i64 0, .int .i64 0, .int .i64 0, .int .i64 0, .int .i64 0, .int .i64 0, .int .i64 0, .int .i64 0, .int .i64 0] S4.out.h2 (by kernel_rfl) rfl (by simp [Value.oneCell']) ?_; have s5 := (S4.out.sub (l' := [(W.heap.size + 1 + 1, #[.int .i64 0, .int .i64 0, .int .i64 0, .int .i64 0, .int .i64 0, .int .i64 0, .int .i64 0, .int .i64 0, .int .i64 0], 36), (W.heap.size + 1 + 1 + 1, #[.int .i64 0, .int .i64 0, .int .i64 0], 39)]) (by simp)).row #[.int .i64 t1, .int .i64 t2, .int .i64 t3, .int .i64 t4, .int .i64 0, .int .i64 0, .int .i64 0, .int .i64 0, .int .i64 0] (by simp); generalize World.setRow _ _ _ = w5 at s5 ⊢; have S5 : Hid (St W w5 _) := s5; clear s5)
        | (refine wpList_store_row rfl 39 (.tmp 5) (.tmp 88) rfl (W.heap.size + 1 + 1 + 1) #[.int .i64 0, .int .i64 0, .int .i64 0] rfl rfl 39 #[.int .i64 0, .int .i64 0, .int .i64 0] S5.out.h2 (by kernel_rfl) rfl (by simp [Value.oneCell']) ?_; have s6 := (S5.out.sub (l' := [(W.heap.size + 1 + 1 + 1, #[.int .i64 0, .int .i64 0, .int .i64 0], 39), (W.heap.size + 1 + 1, #[.int .i64 t1, .int .i64 t2, .int .i64 t3, .int .i64 t4, .int .i64 0, .int .i64 0, .int .i64 0, .int .i64 0, .int .i64 0], 36)]) (by simp)).row #[.int .i64 0, .int .i64 0, .int .i64 0] (by simp); generalize World.setRow _ _ _ = w6 at s6 ⊢; have S6 : Hid (St W w6 _) := s6; clear s6))
      exact bodyPost_ret (results_row_row Try.results9 _ _ (W.heap.size + 1 + 1) (W.heap.size + 1 + 1 + 1) 36 39 _ _ _ _ (by kernel_rfl) (by kernel_rfl) S6.out.h2 S6.out.h1 Try.underlying36 rfl (by kernel_rfl) Try.underlying39 rfl (by kernel_rfl)) rfl ⟨rfl, S6.out.below⟩
    · have hbr := sr.below
      have sM := S1.out.call hbr
      obtain ⟨x, l, ca, cc, rfl, hPi, hd, hclS, hE, -⟩ := (HP.out.below S1.out.below).at hlt
      have hcl := (hbr.cell (World.block_lt_of_cell? _ _ hclS)).trans hclS
      clear hclS
      obtain ⟨y, rfl, wa, lw, cw, ba, lb, cb, e12, e13, hop, hz, hbz, rz, rb⟩ := (HL.out.below sM.below).at hlt
      obtain ⟨ja, jb, hj1, hj2, -, -, hopd⟩ := opd_of hG2.out hlt
      obtain ⟨X0, Y0, Z0, hA⟩ : ∃ X0 Y0 Z0, RL.getD ja (0, 0, 0) = (X0, Y0, Z0) := ⟨_, _, _, rfl⟩
      obtain ⟨A, V, C, hABC⟩ : ∃ A V C, RL.getD (i + 1) (0, 0, 0) = (A, V, C) := ⟨_, _, _, rfl⟩
      obtain ⟨hO, -⟩ := hopd X0 Y0 Z0 A V C hA hABC
      obtain ⟨⟨k1, k2⟩, ⟨k3, k4⟩, k5, k6, -, -⟩ := co_facts hG2.out hlt
      have hleN : (if rdB (O i 0) = true then stR (O i 0) (O i 4) (O i 5) X0 Y0 Z0 else 0) = leN O RL i := by
        unfold leN
        rw [hj1, Int.toNat_natCast, hA]
      have hpoN : A * V = poN RL i := by unfold poN; rw [hABC]
      have hln := HN.out i l hPi
      have hLo : Hid (∀ n : Wd wr [], Calls Try.prog 21 #[.agg #[.int .i64 (O i 0), .int .i64 (O i 1), .int .i64 (O i 2), .int .i64 (O i 3), .int .i64 (O i 4), .int .i64 (O i 5), .int .i64 (O i 6), .int .i64 (O i 7), .int .i64 (O i 8), .int .i64 (O i 9), .int .i64 (O i 10), .int .i64 (O i 11), .slice wa lw cw, .slice ba lb cb, .int .i64 (O i 14), .int .i64 (O i 15), .int .i64 (O i 16), .int .i64 (O i 17), .int .i64 (O i 18), .int .i64 (O i 19), .int .i64 (O i 20), .int .i64 (O i 21)], .slice (some ⟨g, 0, none⟩) (on + 1) cap] n.w fun e w' => e = .returned (.int .i64 (leN O RL i)) ∧ Below n.w.heap.size n.w w') := fun n => by
        rw [e12, e13, Int.toNat_natCast, Int.toNat_natCast] at hO
        have := clof_any (O i 0) (O i 1) (O i 2) (O i 3) (O i 4) (O i 5) (O i 6) (O i 7) (O i 8) (O i 9) (O i 10) (O i 11) wa lw cw ba lb cb (O i 14) (O i 15) (O i 16) (O i 17) (O i 18) (O i 19) (O i 20) (O i 21) X0 Y0 Z0 A V C (fun _ => hO) (Z i) (B i) n.w (hz.below n.h.below) (hbz.below n.h.below) rz rb g (on + 1) cap ja hj1 (by omega) hcap hcapm
          (fun j u hj => (hbr.trans (n.h.below.mono hbr.size)).cell (World.block_lt_of_cell? _ _ (HSH.out ja (by omega) X0 Y0 Z0 hA j u hj)) |>.trans (HSH.out ja (by omega) X0 Y0 Z0 hA j u hj))
        rw [hleN] at this
        exact this
      have hC0 : ∀ n : Wd wr [], n.w.cell? ⟨g, (i + 1) * 3, none⟩ = some (.int .i64 A) := fun n => by
        have := HSH.out (i + 1) (by omega) A V C hABC 0 _ rfl
        rw [Addr.add_lit] at this
        exact ((hbr.trans (n.h.below.mono hbr.size)).cell (World.block_lt_of_cell? _ _ this)).trans this
      have hC1 : ∀ n : Wd wr [], n.w.cell? ⟨g, (i + 1) * 3 + 1, none⟩ = some (.int .i64 V) := fun n => by
        have := HSH.out (i + 1) (by omega) A V C hABC 1 _ rfl
        rw [Addr.add_lit] at this
        exact ((hbr.trans (n.h.below.mono hbr.size)).cell (World.block_lt_of_cell? _ _ this)).trans this
      have hCo : Hid (∀ wz, (∃ n : Wd wr [], wz = n.w) → ∀ j v, [.int .i64 (O i 0), .int .i64 (O i 1), .int .i64 (O i 2), .int .i64 (O i 3), .int .i64 (O i 4), .int .i64 (O i 5), .int .i64 (O i 6), .int .i64 (O i 7), .int .i64 (O i 8), .int .i64 (O i 9), .int .i64 (O i 10), .int .i64 (O i 11), .slice wa lw cw, .slice ba lb cb, .int .i64 (O i 14), .int .i64 (O i 15), .int .i64 (O i 16), .int .i64 (O i 17), .int .i64 (O i 18), .int .i64 (O i 19), .int .i64 (O i 20), .int .i64 (O i 21)][j]? = some v → wz.cell? ((y.add (i * 22)).add j) = some v) := wd_cells hop
      rw [hd] at hp
      have Hp : Hid (coP (leN O RL) (poN RL) (l :: P.drop (i + 1)) i (t1, t2, t3, t4) = ((y1, y2, y3, y4), e1, e2, e3)) := hp
      have Htb : Hid (Tb (t1, t2, t3, t4) ((i : Int) * 8388608)) := htb
      obtain ⟨LN, hLN⟩ : ∃ LN, leN O RL i = LN := ⟨_, rfl⟩
      obtain ⟨QP, hQP⟩ : ∃ QP, poN RL i = QP := ⟨_, rfl⟩
      have HLQ : Hid (leN O RL i = LN ∧ poN RL i = QP) := ⟨hLN, hQP⟩
      rw [hLN] at k1 k2 hLo k5 k6
      rw [hQP] at k3 k4 hpoN k5 k6
      rw [← hln] at k6
      have K6 : Hid ((l.length : Int) * (LN * QP) ≤ 8388608) := k6
      have K5 : Hid (0 ≤ LN * QP) := k5
      obtain ⟨ln, hlnn⟩ : ∃ ln, l.length = ln := ⟨_, rfl⟩
      rw [hlnn] at hcl hE K6
      have HLL : Hid (l.length = ln) := hlnn
      have HE5 : Hid (ERow 6 pcs wS ca ln cc l) := hE
      have l1 := hE.2.1
      have l2 := hE.2.2.1
      unfold maxLen at l2
      obtain ⟨c1, f1, zr1, c2, f2, zr2, c3, f3, zr3, c4, f4, zr4, -⟩ := sM.rules
      clear hopd hO hA hABC hleN hln hLN hQP hlnn hE hd hp htb hop hz hbz rz rb e12 e13 hPi k5 k6 hj1 hj2
      go_upto_region 9 with fail
      have hSt := St.start wr
      have Hsr : Hid (St wS wr _) := sr
      obtain ⟨q1, y1', q2, y2', q3, y3', q4, y4', -⟩ := sM.rulesE
      have hne := Nonempty.intro (Wd.mk _ hSt)
      clear sM sr hbr
      refine region_held hSt (by kernel_rfl) (by kernel_rfl) ?_
      go_big_quiet_step (fail)
      go_big_quiet_step (fail)
      go_big_quiet_step (fail)
      go_big_quiet_step (fail)
      go_big_quiet_want
      refine quiet_la 70 (.tmp 42) rfl _ rfl [.int .i64 (O i 0), .int .i64 (O i 1), .int .i64 (O i 2), .int .i64 (O i 3), .int .i64 (O i 4), .int .i64 (O i 5), .int .i64 (O i 6), .int .i64 (O i 7), .int .i64 (O i 8), .int .i64 (O i 9), .int .i64 (O i 10), .int .i64 (O i 11), .slice wa lw cw, .slice ba lb cb, .int .i64 (O i 14), .int .i64 (O i 15), .int .i64 (O i 16), .int .i64 (O i 17), .int .i64 (O i 18), .int .i64 (O i 19), .int .i64 (O i 20), .int .i64 (O i 21)] _ hCo.out Try.underlying70 rfl (by kernel_rfl) rfl ?_
      go_simp
      go_big_quiet_on
      repeat (go_big_quiet_step ((go_at_call 21; exact held_of (hLo.out _))))
      refine wpQuiet_nil ?_
      intro _ hw'
      obtain ⟨nq, rfl⟩ := hw'
      obtain ⟨w5, hw5⟩ : ∃ w5, nq.w = w5 := ⟨_, rfl⟩
      have hb5 : Below wr.heap.size wr w5 := hw5 ▸ nq.h.below
      rw [hw5]
      have S5 : Hid (St wS w5 [(wS.heap.size, #[.int .i64 t1, .int .i64 t2, .int .i64 t3, .int .i64 t4, .int .i64 0, .int .i64 0, .int .i64 0, .int .i64 0, .int .i64 0], 36)]) := Hsr.out.call hb5
      clear q1 y1' q2 y2' q3 y3' q4 y4' hne hw5 hSt hCo hLo hb5 Hsr c1 f1 c2 f2 c3 f3 c4 f4 hC0 hC1 hcl
      clear nq
      try rw [hpoN]
      clear hpoN
      go_wp2
      go_loopw [61] (fun j wv => ∃ (k : Nat) (r1 r2 r3 r4 : Int), k ≤ ln ∧ j = .int .i64 k ∧ coL ((i : Int) + 1) LN QP (l.drop k) k (r1, r2, r3, r4) = coL ((i : Int) + 1) LN QP l 0 (t1, t2, t3, t4) ∧ Tb (r1, r2, r3, r4) ((i : Int) * 8388608 + (k : Int) * (LN * QP)) ∧ St wS wv [(wS.heap.size, #[.int .i64 r1, .int .i64 r2, .int .i64 r3, .int .i64 r4, .int .i64 0, .int .i64 0, .int .i64 0, .int .i64 0, .int .i64 0], 36)]) (fun j _ => ln - (intOf j).toNat)
      case atStart => exact ⟨0, t1, t2, t3, t4, Nat.zero_le _, rfl, by simp, by simpa using Htb.out, S5.out⟩
      case round =>
        clear S5 Htb ST HY zr1 zr2 zr3 zr4 z1 z2 z3 z4
        obtain ⟨k, r1, r2, r3, r4, hk, rfl, hq, htb, sv⟩ := hrel
        by_cases hlk : k < ln
        rotate_left
        · rw [List.drop_of_length_le (by rw [HLL.out]; omega)] at hq
          rw [show coL ((i : Int) + 1) LN QP [] k (r1, r2, r3, r4) = ((r1, r2, r3, r4), 0, 0, 0) from rfl] at hq
          obtain ⟨a1, a2⟩ := HLQ.out
          have hp := Hp.out
          rw [coP_yes (by rw [a1, a2, ← hq]), a1, a2, ← hq] at hp
          have HQ : Hid (coP (leN O RL) (poN RL) (P.drop (i + 1)) (i + 1) (r1, r2, r3, r4) = ((y1, y2, y3, y4), e1, e2, e3)) := hp
          have HT : Hid (Tb (r1, r2, r3, r4) (((i + 1 : Nat) : Int) * 8388608)) := htb.le (by
            have e1 := K6.out
            have e2 : (k : Int) = (ln : Int) := by omega
            rw [e2]
            omega)
          have HS : Hid (St wS wr _) := sv
          clear hq htb sv a1 a2 hp
          go_wp2
          go_roundw
          case rel => exact ⟨i + 1, r1, r2, r3, r4, by omega, by go_num, HQ.out, HT.out, HS.out⟩
          case measure => simp [intOf]; omega
        · obtain ⟨x', p, rfl, hpk, hdk, hck⟩ := (HE5.out.below sv.below).at hlk
          obtain ⟨p1, p2, p3, p4, p5, p6⟩ := p
          rw [hdk] at hq
          have hcell : Hid (∀ q v, [.int .i64 p1, .int .i64 p2, .int .i64 p3, .int .i64 p4, .int .i64 p5, .int .i64 p6][q]? = some v → wr.cell? ((x'.add (k * 6)).add q) = some v) := hck
          have HQ : Hid (coL ((i : Int) + 1) LN QP ((p1, p2, p3, p4, p5, p6) :: l.drop (k + 1)) k (r1, r2, r3, r4) = coL ((i : Int) + 1) LN QP l 0 (t1, t2, t3, t4)) := hq
          have Htb : Hid (Tb (r1, r2, r3, r4) ((i : Int) * 8388608 + (k : Int) * (LN * QP))) := htb
          have sb := sv.new (c := #[.int .i64 p1, .int .i64 p2, .int .i64 p3, .int .i64 p4, .int .i64 p5, .int .i64 p6]) (t := 61)
          clear hpk hdk hck hq htb sv
          go_upto_region 13 with (first
            | (refine wpList_load_any rfl 61 (.tmp 64) rfl _ rfl [.int .i64 p1, .int .i64 p2, .int .i64 p3, .int .i64 p4, .int .i64 p5, .int .i64 p6] _ hcell.out Try.underlying61 rfl (by kernel_rfl) ?_)
            | (refine wpList_st_new rfl 61 (.tmp 15) (.tmp 65) rfl wr _ #[.int .i64 p1, .int .i64 p2, .int .i64 p3, .int .i64 p4, .int .i64 p5, .int .i64 p6] rfl rfl (by kernel_rfl) rfl (by simp [Value.oneCell']) ?_))
          obtain ⟨B5, hB5⟩ : ∃ B5, wr.heap.size = B5 := ⟨_, rfl⟩
          obtain ⟨wb, hwb⟩ : ∃ wb, wr.alloc (.cells #[.int .i64 p1, .int .i64 p2, .int .i64 p3, .int .i64 p4, .int .i64 p5, .int .i64 p6] 61) = wb := ⟨_, rfl⟩
          rw [hwb, hB5] at sb
          rw [hwb, hB5]
          have Sb : Hid (St wS wb _) := sb
          clear hwb hcell hB5 sb
          by_cases h0 : deE (p1, p2, p3, p4, p5, p6) LN = 0
          · obtain ⟨s1, s2, s3, s4, hs⟩ : ∃ s1 s2 s3 s4, coS (p1, p2, p3, p4, p5, p6) LN = (s1, s2, s3, s4) := ⟨_, _, _, _, rfl⟩
            have HC : Hid (∀ w, _) := fun w => ccost_ok p1 p2 p3 p4 p5 p6 LN s1 s2 s3 s4 h0 hs k2 w
            have hQ2 := (coL_yes h0).symm.trans HQ.out
            have hT2 := Htb.out.add k1 (by omega : 0 ≤ QP) h0
            obtain ⟨b1, b2, b3, b4⟩ := coS_bd k1 h0
            rw [hs] at hQ2 hT2 b1 b2 b3 b4
            simp only at b1 b2 b3 b4
            have d1 := mulbd b1 (by omega : 0 ≤ QP)
            have d2 := mulbd b2 (by omega : 0 ≤ QP)
            have d3 := mulbd b3 (by omega : 0 ≤ QP)
            have d4 := mulbd b4 (by omega : 0 ≤ QP)
            have dm : LN * QP ≤ 512 * 1048576 := Int.mul_le_mul k2 k4 (by omega) (by omega)
            have dk : (k : Int) * (LN * QP) ≤ (ln : Int) * (LN * QP) := Int.mul_le_mul_of_nonneg_right (by omega) K5.out
            have d0 := Htb.out
            have dl := K6.out
            unfold Tb at d0
            simp only at d0
            have hPT : Hid (∀ w, _) := fun w => cplus_any r1 r2 r3 r4 s1 s2 s3 s4 QP (by unfold Lit9; omega) (by unfold Lit9; omega) (by unfold Lit9; omega) (by unfold Lit9; omega) (by unfold Lit9; omega) (by unfold Lit9; omega) (by unfold Lit9; omega) (by unfold Lit9; omega) w
            have HQ2 : Hid (coL ((i : Int) + 1) LN QP (l.drop (k + 1)) (k + 1) (r1 + s1 * QP, r2 + s2 * QP, r3 + s3 * QP, r4 + s4 * QP) = coL ((i : Int) + 1) LN QP l 0 (t1, t2, t3, t4)) := hQ2
            have HT2 : Hid (Tb (r1 + s1 * QP, r2 + s2 * QP, r3 + s3 * QP, r4 + s4 * QP) ((i : Int) * 8388608 + ((k + 1 : Nat) : Int) * (LN * QP))) := by
              have e : ((k + 1 : Nat) : Int) * (LN * QP) = (k : Int) * (LN * QP) + LN * QP := by rw [Int.natCast_add, Int.add_mul]; simp
              unfold Hid
              rw [e, ← Int.add_assoc]
              exact hT2
            clear hQ2 hT2 b1 b2 b3 b4 d0 d1 d2 d3 d4 dm dk dl HQ Htb h0 hs
            go_wp2_with (refine wpList_load_row rfl 61 (.tmp 15) rfl _ rfl 61 _ (0, 0) _ Sb.out.h1 Try.underlying61 rfl (by kernel_rfl) ?_)
            refine (HC.out _).mono ?_
            rintro e w7 ⟨rfl, hb⟩
            have s7 := ((Sb.out.call hb).tail).new (c := #[.int .i64 s1, .int .i64 s2, .int .i64 s3, .int .i64 s4, .int .i64 0, .int .i64 0, .int .i64 0, .int .i64 0, .int .i64 0]) (t := 36)
            clear hb Sb HC
            go_upto_region 16 with (refine wpList_st_new rfl 36 (.tmp 16) (.tmp 70) rfl w7 _ #[.int .i64 s1, .int .i64 s2, .int .i64 s3, .int .i64 s4, .int .i64 0, .int .i64 0, .int .i64 0, .int .i64 0, .int .i64 0] rfl rfl (by kernel_rfl) rfl (by simp [Value.oneCell']) ?_)
            obtain ⟨B6, hB6⟩ : ∃ B6, w7.heap.size = B6 := ⟨_, rfl⟩
            obtain ⟨w8, hw8⟩ : ∃ w8, w7.alloc (.cells #[.int .i64 s1, .int .i64 s2, .int .i64 s3, .int .i64 s4, .int .i64 0, .int .i64 0, .int .i64 0, .int .i64 0, .int .i64 0] 36) = w8 := ⟨_, rfl⟩
            rw [hw8, hB6] at s7
            rw [hw8, hB6]
            have S8 : Hid (St wS w8 _) := s7
            clear hw8 hB6 s7
            go_wp2_with (first
              | (refine wpList_load_row rfl 36 (.tmp 9) rfl _ rfl 36 _ (0, 0) _ S8.out.h2 Try.underlying36 rfl (by kernel_rfl) ?_)
              | (refine wpList_load_row rfl 36 (.tmp 16) rfl _ rfl 36 _ (0, 0) _ S8.out.h1 Try.underlying36 rfl (by kernel_rfl) ?_))
            refine (hPT.out _).mono ?_
            rintro e w9 ⟨rfl, hb⟩
            have S9 : Hid (St wS w9 [(wS.heap.size, #[.int .i64 r1, .int .i64 r2, .int .i64 r3, .int .i64 r4, .int .i64 0, .int .i64 0, .int .i64 0, .int .i64 0, .int .i64 0], 36)]) := (S8.out.call hb).tail
            clear hb S8 hPT
            go_wp2_with (refine wpList_store_row rfl 36 (.tmp 9) (.tmp 84) rfl wS.heap.size #[.int .i64 (r1 + s1 * QP), .int .i64 (r2 + s2 * QP), .int .i64 (r3 + s3 * QP), .int .i64 (r4 + s4 * QP), .int .i64 0, .int .i64 0, .int .i64 0, .int .i64 0, .int .i64 0] rfl rfl 36 #[.int .i64 r1, .int .i64 r2, .int .i64 r3, .int .i64 r4, .int .i64 0, .int .i64 0, .int .i64 0, .int .i64 0, .int .i64 0] S9.out.h1 (by kernel_rfl) rfl (by simp [Value.oneCell']) ?_; have s10 := S9.out.row #[.int .i64 (r1 + s1 * QP), .int .i64 (r2 + s2 * QP), .int .i64 (r3 + s3 * QP), .int .i64 (r4 + s4 * QP), .int .i64 0, .int .i64 0, .int .i64 0, .int .i64 0, .int .i64 0] (by simp); generalize World.setRow _ _ _ = w10 at s10 ⊢; have S10 : Hid (St wS w10 _) := s10; clear s10)
            go_roundw
            case rel => exact ⟨k + 1, _, _, _, _, by omega, by go_num, HQ2.out, HT2.out, S10.out⟩
            case measure => simp [intOf]; omega
          · obtain ⟨E, hE⟩ : ∃ E, deE (p1, p2, p3, p4, p5, p6) LN = E := ⟨_, rfl⟩
            have hE0 : E ≠ 0 := by rw [← hE]; exact h0
            have HC : Hid (∀ w, _) := fun w => ccost_no p1 p2 p3 p4 p5 p6 LN E hE hE0 w
            have hQ2 := (coL_no h0).symm.trans HQ.out
            rw [hE] at hQ2
            obtain ⟨a1, a2⟩ := HLQ.out
            have hp := Hp.out
            rw [coP_no (by rw [a1, a2, ← hQ2]; exact hE0), a1, a2, ← hQ2] at hp
            simp only [Prod.mk.injEq] at hp
            obtain ⟨⟨rfl, rfl, rfl, rfl⟩, rfl, rfl, rfl⟩ := hp
            have hE1 : (E == 0) = false := by simp [hE0]
            clear hQ2 a1 a2 HQ Htb h0 hE
            go_wp2_with (refine wpList_load_row rfl 61 (.tmp 15) rfl _ rfl 61 _ (0, 0) _ Sb.out.h1 Try.underlying61 rfl (by kernel_rfl) ?_)
            refine (HC.out _).mono ?_
            rintro e w7 ⟨rfl, hb⟩
            have s7 := S1.out.call ((Sb.out.call hb).below.trans ((bal w7 (.cells #[.int .i64 0, .int .i64 0, .int .i64 0, .int .i64 0, .int .i64 0, .int .i64 0, .int .i64 0, .int .i64 0, .int .i64 0] 36)).mono (Sb.out.call hb).size))
            clear hb Sb HC
            go_upto_region 15 with (refine wpList_st_new rfl 36 (.tmp 16) (.tmp 70) rfl w7 _ #[.int .i64 0, .int .i64 0, .int .i64 0, .int .i64 0, .int .i64 0, .int .i64 0, .int .i64 0, .int .i64 0, .int .i64 0] rfl rfl (by kernel_rfl) rfl (by simp [Value.oneCell']) ?_)
            obtain ⟨w8, hw8⟩ : ∃ w8, w7.alloc (.cells #[.int .i64 0, .int .i64 0, .int .i64 0, .int .i64 0, .int .i64 0, .int .i64 0, .int .i64 0, .int .i64 0, .int .i64 0] 36) = w8 := ⟨_, rfl⟩
            rw [hw8] at s7 ⊢
            have S4 : Hid (St W w8 (_)) := s7
            clear hw8 s7
            go_wp2_with (first
              | (refine wpList_store_row rfl 36 (.tmp 4) (.tmp 74) rfl (W.heap.size + 1 + 1) #[.int .i64 0, .int .i64 0, .int .i64 0, .int .i64 0, .int .i64 0, .int .i64 0, .int .i64 0, .int .i64 0, .int .i64 0] rfl rfl 36 #[.int .i64 0, .int .i64 0, .int .i64 0, .int .i64 0, .int .i64 0, .int .i64 0, .int .i64 0, .int .i64 0, .int .i64 0] S4.out.h2 (by kernel_rfl) rfl (by simp [Value.oneCell']) ?_; have s5 := (S4.out.sub (l' := [(W.heap.size + 1 + 1, #[.int .i64 0, .int .i64 0, .int .i64 0, .int .i64 0, .int .i64 0, .int .i64 0, .int .i64 0, .int .i64 0, .int .i64 0], 36), (W.heap.size + 1 + 1 + 1, #[.int .i64 0, .int .i64 0, .int .i64 0], 39)]) (by simp)).row #[.int .i64 0, .int .i64 0, .int .i64 0, .int .i64 0, .int .i64 0, .int .i64 0, .int .i64 0, .int .i64 0, .int .i64 0] (by simp); generalize World.setRow _ _ _ = w15 at s5 ⊢; have S15 : Hid (St W w15 _) := s5; clear s5)
              | (refine wpList_store_row rfl 39 (.tmp 5) (.tmp 80) rfl (W.heap.size + 1 + 1 + 1) #[.int .i64 E, .int .i64 ((i : Int) + 1), .int .i64 ((k : Int) + 1)] rfl rfl 39 #[.int .i64 0, .int .i64 0, .int .i64 0] S15.out.h2 (by kernel_rfl) rfl (by simp [Value.oneCell']) ?_; have s6 := (S15.out.sub (l' := [(W.heap.size + 1 + 1 + 1, #[.int .i64 0, .int .i64 0, .int .i64 0], 39), (W.heap.size + 1 + 1, #[.int .i64 0, .int .i64 0, .int .i64 0, .int .i64 0, .int .i64 0, .int .i64 0, .int .i64 0, .int .i64 0, .int .i64 0], 36)]) (by simp)).row #[.int .i64 E, .int .i64 ((i : Int) + 1), .int .i64 ((k : Int) + 1)] (by simp); generalize World.setRow _ _ _ = w16 at s6 ⊢; have S16 : Hid (St W w16 _) := s6; clear s6))
            exact bodyPost_ret (results_row_row Try.results9 _ _ (W.heap.size + 1 + 1) (W.heap.size + 1 + 1 + 1) 36 39 _ _ _ _ (by kernel_rfl) (by kernel_rfl) S16.out.h2 S16.out.h1 Try.underlying36 rfl (by kernel_rfl) Try.underlying39 rfl (by kernel_rfl)) rfl ⟨rfl, S16.out.below⟩
end Go.Proofs.Ytcjnhchjikcigaa
