/- The places of a sum's terms, in plain numbers: where they lie, that none comes twice. Numbers that reach the ends of a sum: lists that take, for each weight, the one end or the other, in plain numbers (for BoundReached). What greatestUnder and greatest of package plain return. What greatest of package plain returns; lists that grow. What sums of package plain returns: all sums of an op that reduces. What Totals of package plain returns. -/
import Derived.Test.YtcphealigifdiaaGr13
import Derived.Test.YtcphealigifdiaaGr24
import Derived.Test.YtcphealigifdiaaGr26
import Derived.Deep.RegionLawGrows
/- The places of a sum's terms, in plain numbers: where they lie, that none comes twice. -/
namespace Go.Proofs.Ytcphealigifdiaa
set_option linter.unusedVariables false
theorem mul_inj {c a b a' b' : Int} (h1 : 0 ≤ b ∧ b < c) (h2 : 0 ≤ b' ∧ b' < c) (h : a * c + b = a' * c + b') : a = a' ∧ b = b' := by
  have e : ∀ x y : Int, 0 ≤ y ∧ y < c → (x * c + y) / c = x := fun x y hy => by
    rw [Int.add_comm, Int.add_mul_ediv_right _ _ (by omega), Int.ediv_eq_zero_of_lt hy.1 hy.2, Int.zero_add]
  have q1 := e a b h1
  have q2 := e a' b' h2
  rw [h] at q1
  have : a = a' := by omega
  subst this
  exact ⟨rfl, by omega⟩
theorem tpc_cases {h w kw t u : Int} (q : Int) : tpc h w kw t u q = -1 ∨ ((0 ≤ t + q / kw ∧ t + q / kw < h) ∧ (0 ≤ u + q % kw ∧ u + q % kw < w) ∧ tpc h w kw t u q = (t + q / kw) * w + (u + q % kw)) := by
  unfold tpc
  by_cases g : (0 ≤ t + q / kw ∧ t + q / kw < h) ∧ (0 ≤ u + q % kw ∧ u + q % kw < w)
  · right; exact ⟨g.1, g.2, plc_in g⟩
  · left; exact plc_out g
theorem tpc_bd {h w kw t u : Int} (q : Int) (g : tpc h w kw t u q ≠ -1) : 0 ≤ tpc h w kw t u q ∧ tpc h w kw t u q < h * w := by
  rcases tpc_cases (h := h) (w := w) (kw := kw) (t := t) (u := u) q with e | ⟨g1, g2, e⟩
  · exact absurd e g
  · rw [e]
    have := rowbd g1.2 g1.1 g2.1 g2.2
    omega
theorem tpc_inj {h w kw t u q r : Int} (hk : 1 ≤ kw) (hq : tpc h w kw t u q ≠ -1) (he : tpc h w kw t u q = tpc h w kw t u r) : q = r := by
  rcases tpc_cases (h := h) (w := w) (kw := kw) (t := t) (u := u) q with e | ⟨g1, g2, e⟩
  · exact absurd e hq
  rcases tpc_cases (h := h) (w := w) (kw := kw) (t := t) (u := u) r with e' | ⟨g1', g2', e'⟩
  · rw [he, e'] at hq; exact absurd rfl hq
  rw [e, e'] at he
  obtain ⟨a1, a2⟩ := mul_inj (by omega) (by omega) he
  have b1 := Int.mul_ediv_add_emod q kw
  have b2 := Int.mul_ediv_add_emod r kw
  have c1 : q / kw = r / kw := by omega
  have c2 : q % kw = r % kw := by omega
  rw [← b1, ← b2, c1, c2]
/-- What is known of the numbers of an op with a window. -/
structure Wn4 (k c ch h w kw t u : Int) (nC N : Nat) : Prop where
  k1 : k ≠ 1
  kk : 2 ≤ k ∧ k ≤ 4
  hn : (nC : Int) = chB k c ch - chF k ch
  n1 : 1 ≤ nC
  hF : 0 ≤ chF k ch
  hB : chB k c ch ≤ c
  hc : 1 ≤ c ∧ c ≤ 1024
  hh : 1 ≤ h ∧ h ≤ 1024
  hw : 1 ≤ w ∧ w ≤ 1024
  hkw : 1 ≤ kw
  hC : (chF k ch : Int) = if k = 2 then 0 else ch - 1
theorem div_mod_nat (i nC : Nat) (h : 1 ≤ nC) : i = i / nC * nC + i % nC := by
  have := Nat.div_add_mod i nC
  rw [Nat.mul_comm] at this
  exact this.symm
theorem Wn4.at {k c ch h w kw t u : Int} {nC N : Nat} (g : Wn4 k c ch h w kw t u nC N) (i : Nat) : plA k c ch h w kw t u (i : Int) = cov c (tpc h w kw t u ((i / nC : Nat) : Int)) (chF k ch + ((i % nC : Nat) : Int)) := by
  have := plA_at (h := h) (w := w) (kw := kw) (t := t) (u := u) (q := i / nC) (j := i % nC) g.k1 g.hn (Nat.mod_lt _ g.n1)
  rw [← div_mod_nat i nC g.n1] at this
  exact this
theorem cov_cases {C p d : Int} (hC : 1 ≤ C) (hp : p = -1 ∨ 0 ≤ p) (hd : 0 ≤ d) : (cov C p d = -1 ∧ p = -1) ∨ (0 ≤ cov C p d ∧ p ≠ -1 ∧ cov C p d = p * C + d) := by
  unfold cov
  by_cases q : p = -1
  · left; exact ⟨if_pos q, q⟩
  · right
    rw [if_neg q]
    have := Int.mul_nonneg (show 0 ≤ p by omega) (show 0 ≤ C by omega)
    exact ⟨by omega, q, rfl⟩
theorem tpc_sgn {h w kw t u : Int} (q : Int) : tpc h w kw t u q = -1 ∨ 0 ≤ tpc h w kw t u q := by
  by_cases g : tpc h w kw t u q = -1
  · exact .inl g
  · exact .inr (tpc_bd q g).1
theorem Wn4.dd {k c ch h w kw t u : Int} {nC N : Nat} (g : Wn4 k c ch h w kw t u nC N) (i : Nat) : 0 ≤ chF k ch + ((i % nC : Nat) : Int) ∧ chF k ch + ((i % nC : Nat) : Int) < c := by
  have h1 := Nat.mod_lt i g.n1
  have h2 := g.hn
  have h3 := g.hF
  have h4 := g.hB
  omega
/-- Where a term lies. -/
theorem Wn4.bd {k c ch h w kw t u : Int} {nC N : Nat} (g : Wn4 k c ch h w kw t u nC N) (i : Nat) : plA k c ch h w kw t u (i : Int) = -1 ∨ (0 ≤ plA k c ch h w kw t u (i : Int) ∧ plA k c ch h w kw t u (i : Int) < h * w * c) := by
  rw [g.at i]
  rcases cov_cases g.hc.1 (tpc_sgn ((i / nC : Nat) : Int)) (g.dd i).1 with ⟨e, -⟩ | ⟨e1, e2, e3⟩
  · exact .inl e
  · right
    refine ⟨e1, ?_⟩
    rw [e3]
    have b := tpc_bd _ e2
    have d := g.dd i
    have m := Int.mul_le_mul_of_nonneg_right (show tpc h w kw t u ((i / nC : Nat) : Int) + 1 ≤ h * w by omega) (show 0 ≤ c by have := g.hc; omega)
    rw [Int.add_mul, Int.one_mul] at m
    omega
/-- No place comes twice. -/
theorem Wn4.inj {k c ch h w kw t u : Int} {nC N : Nat} (g : Wn4 k c ch h w kw t u nC N) {i j : Nat} (hi : plA k c ch h w kw t u (i : Int) ≠ -1) (he : plA k c ch h w kw t u (i : Int) = plA k c ch h w kw t u (j : Int)) : i = j := by
  rw [g.at i] at hi he
  rw [g.at j] at he
  rcases cov_cases g.hc.1 (tpc_sgn ((i / nC : Nat) : Int)) (g.dd i).1 with ⟨e, -⟩ | ⟨e1, e2, e3⟩
  · exact absurd e hi
  rcases cov_cases g.hc.1 (tpc_sgn ((j / nC : Nat) : Int)) (g.dd j).1 with ⟨e', -⟩ | ⟨e1', e2', e3'⟩
  · rw [he] at hi; exact absurd e' hi
  rw [e3, e3'] at he
  obtain ⟨a1, a2⟩ := mul_inj (g.dd i) (g.dd j) he
  have q := tpc_inj g.hkw e2 a1
  have q1 : i / nC = j / nC := by exact_mod_cast q
  have q2 : i % nC = j % nC := by omega
  rw [div_mod_nat i nC g.n1, div_mod_nat j nC g.n1, q1, q2]
/-- The channel of a place. -/
theorem Wn4.chn {k c ch h w kw t u : Int} {nC N : Nat} (g : Wn4 k c ch h w kw t u nC N) (k2 : k ≠ 2) {i : Nat} (hi : plA k c ch h w kw t u (i : Int) ≠ -1) : Int.tmod (plA k c ch h w kw t u (i : Int)) c = ch - 1 := by
  have hb := g.bd i
  rw [g.at i] at hi hb ⊢
  rcases cov_cases g.hc.1 (tpc_sgn ((i / nC : Nat) : Int)) (g.dd i).1 with ⟨e, -⟩ | ⟨e1, e2, e3⟩
  · exact absurd e hi
  have hF := g.hC
  rw [if_neg k2] at hF
  have hn := g.hn
  have hB : chB k c ch = ch := if_neg k2
  have hm : i % nC = 0 := by have := Nat.mod_lt i g.n1; omega
  rw [e3, Int.tmod_eq_emod_of_nonneg (by omega), hm, hF]
  rw [Int.add_comm, Int.add_mul_emod_self_right]
  have d := g.dd i
  rw [hm, hF] at d
  rw [Int.emod_eq_of_lt (by omega) (by omega)]
  omega
end Go.Proofs.Ytcphealigifdiaa

/- Numbers that reach the ends of a sum: lists that take, for each weight, the one end or the other, in plain numbers (for BoundReached). -/
namespace Go.Proofs.Ytcphealigifdiaa
open Go.ChangeShapes Go.WideShapes Go.ChangeAt Go.RowKit
set_option linter.unusedVariables false
/-! ### No place comes twice -/
theorem plA_inj {k kh kw sh sw tp lf bt rt h w c H V C ch t u : Int} {lw lb : Nat} (s : Sit k kh kw sh sw tp lf bt rt h w c H V C lw lb) (hch : 1 ≤ ch ∧ ch ≤ C) {i j : Nat} (hi : plA k c ch h w kw t u (i : Int) ≠ -1) (he : plA k c ch h w kw t u (i : Int) = plA k c ch h w kw t u (j : Int)) : i = j := by
  obtain ⟨hk, hvA, hvB, hou, -, hwn, -, h3c, -⟩ := s
  have hc1 := (vS_yes hvA).2.2.1
  have hd1 := (vS_yes hvA).1
  have hw1 := (vS_yes hvA).2.1
  by_cases k1 : k = 1
  · subst k1
    have hf : ∀ i : Nat, plA 1 c ch h w kw t u (i : Int) = (i : Int) := fun i => if_pos rfl
    rw [hf, hf] at he
    exact_mod_cast he
  · obtain ⟨hk1, hk2⟩ := hwn (by omega)
    have hF : 0 ≤ chF k ch := by unfold chF; split <;> omega
    have hB0 : chB k c ch ≤ c := by
      unfold chB
      split
      · omega
      · have := h3c (by omega); omega
    have hFB : chF k ch < chB k c ch := by unfold chF chB; split <;> omega
    obtain ⟨nC, hnC⟩ : ∃ nC : Nat, (nC : Int) = chB k c ch - chF k ch := ⟨(chB k c ch - chF k ch).toNat, by omega⟩
    have g : Wn4 k c ch h w kw t u nC 0 := ⟨k1, by omega, hnC, by omega, hF, hB0, hc1, hd1, hw1, by omega, rfl⟩
    exact g.inj hi he
theorem siL_at {k kh kw sh sw tp lf bt rt h w c ch at' : Int} {zs : List Int} {i : Nat} (hi : i < (siL k kh kw sh sw tp lf bt rt h w c ch at' zs).length) :
    (siL k kh kw sh sw tp lf bt rt h w c ch at' zs).getD i (0, 0) = (wgA k ch (stR k kh kw h w c) zs i, plA k c ch h w kw (coR h w c kh kw sh sw tp lf bt rt at').1 (coR h w c kh kw sh sw tp lf bt rt at').2.1 i) := by
  unfold siL at hi ⊢
  rw [tmL_len] at hi
  unfold tmL
  rw [List.getD_eq_getElem?_getD, List.getElem?_map, List.getElem?_range hi]
  rfl
theorem siL_inj {k kh kw sh sw tp lf bt rt h w c H V C ch at' : Int} {lw lb : Nat} (s : Sit k kh kw sh sw tp lf bt rt h w c H V C lw lb) (hch : 1 ≤ ch ∧ ch ≤ C) {zs : List Int} {i j : Nat} (hi : i < (siL k kh kw sh sw tp lf bt rt h w c ch at' zs).length) (hj : j < (siL k kh kw sh sw tp lf bt rt h w c ch at' zs).length)
    (hn : ¬ ((siL k kh kw sh sw tp lf bt rt h w c ch at' zs).getD i (0, 0)).2 < 0) (he : ((siL k kh kw sh sw tp lf bt rt h w c ch at' zs).getD i (0, 0)).2 = ((siL k kh kw sh sw tp lf bt rt h w c ch at' zs).getD j (0, 0)).2) : i = j := by
  rw [siL_at hi] at hn he
  rw [siL_at hj] at he
  exact plA_inj s hch (fun q => hn (by show plA k c ch h w kw (coR h w c kh kw sh sw tp lf bt rt at').1 (coR h w c kh kw sh sw tp lf bt rt at').2.1 i < 0; rw [q]; decide)) he
/-! ### A list of one end, filled -/
def flL (n : Nat) (z : Int) (i : Nat) : List Int := List.replicate i z ++ List.replicate (n - i) 0
theorem flL_0 (n : Nat) (z : Int) : flL n z 0 = List.replicate n 0 := by simp [flL]
theorem flL_len {n i : Nat} (z : Int) (h : i ≤ n) : (flL n z i).length = n := by simp [flL]; omega
theorem flL_all (n : Nat) (z : Int) : flL n z n = List.replicate n z := by simp [flL]
theorem flL_set {n i : Nat} (z : Int) (h : i < n) : (flL n z i).set i z = flL n z (i + 1) := by
  unfold flL
  obtain ⟨m, hm⟩ : ∃ m, n - i = m + 1 := ⟨n - i - 1, by omega⟩
  rw [hm, show n - (i + 1) = m by omega, List.set_append_right _ _ (by simp), List.length_replicate, Nat.sub_self, List.replicate_succ, List.set_cons_zero, List.replicate_succ', List.append_assoc]
  rfl
/-! ### The other end, where a weight asks for it -/
/-- The second member of the k-th term. -/
def pls (TL : List (Int × Int)) (k : Nat) : Int := (TL.getD k (0, 0)).2
def wgs (TL : List (Int × Int)) (k : Nat) : Int := (TL.getD k (0, 0)).1
structure Fl (n : Nat) (lo hi : Int) (s : Int → Bool) (TL : List (Int × Int)) (m : Nat) (A : List Int) : Prop where
  len : A.length = n
  val : ∀ v ∈ A, v = lo ∨ v = hi
  hit : ∀ k, k < m → ¬ pls TL k < 0 → A.getD (pls TL k).toNat 0 = if s (wgs TL k) = true then hi else lo
  rest : ∀ p, p < n → (∀ k, k < m → pls TL k ≠ (p : Int)) → A.getD p 0 = lo
/-- What is known of the places. -/
structure Pli (n : Nat) (TL : List (Int × Int)) : Prop where
  bd : ∀ k, k < TL.length → pls TL k = -1 ∨ (0 ≤ pls TL k ∧ pls TL k < (n : Int))
  inj : ∀ i j, i < TL.length → j < TL.length → ¬ pls TL i < 0 → pls TL i = pls TL j → i = j
theorem Fl.start (n : Nat) (lo hi : Int) (s : Int → Bool) (TL : List (Int × Int)) : Fl n lo hi s TL 0 (List.replicate n lo) :=
  ⟨by simp, fun v hv => .inl (List.eq_of_mem_replicate hv), fun k hk => absurd hk (Nat.not_lt_zero _), fun p hp _ => by simp [List.getD, hp]⟩
theorem Fl.pad {n : Nat} {lo hi : Int} {s : Int → Bool} {TL : List (Int × Int)} {m : Nat} {A : List Int} (h : Fl n lo hi s TL m A) (hp : pls TL m < 0) : Fl n lo hi s TL (m + 1) A := by
  refine ⟨h.len, h.val, fun k hk hn => ?_, fun p hp' hk => h.rest p hp' fun k hkm => hk k (by omega)⟩
  by_cases e : k = m
  · subst e; exact absurd hp hn
  · exact h.hit k (by omega) hn
theorem Fl.skip {n : Nat} {lo hi : Int} {s : Int → Bool} {TL : List (Int × Int)} {m p : Nat} {A : List Int} (h : Fl n lo hi s TL m A) (g : Pli n TL) (hm : m < TL.length) (hp : pls TL m = (p : Int)) (hs : s (wgs TL m) = false) : Fl n lo hi s TL (m + 1) A := by
  refine ⟨h.len, h.val, fun k hk hn => ?_, fun q hq hk => h.rest q hq fun k hkm => hk k (by omega)⟩
  by_cases e : k = m
  · subst e
    rw [hs, if_neg (by decide), hp, Int.toNat_natCast]
    have hb := g.bd k hm
    refine h.rest p (by omega) fun i hi he => ?_
    have := g.inj k i hm (by omega) hn (by rw [hp, he])
    omega
  · exact h.hit k (by omega) hn
theorem Fl.put {n : Nat} {lo hi : Int} {s : Int → Bool} {TL : List (Int × Int)} {m p : Nat} {A : List Int} (h : Fl n lo hi s TL m A) (g : Pli n TL) (hm : m < TL.length) (hp : pls TL m = (p : Int)) (hs : s (wgs TL m) = true) : Fl n lo hi s TL (m + 1) (A.set p hi) := by
  have hb := g.bd m hm
  have hpl : p < A.length := by rw [h.len]; omega
  refine ⟨by rw [List.length_set]; exact h.len, fun v hv => ?_, fun k hk hn => ?_, fun q hq hk => ?_⟩
  · rcases List.mem_or_eq_of_mem_set hv with q | q
    · exact h.val v q
    · exact .inr q
  · by_cases e : k = m
    · subst e
      rw [hs, if_pos rfl, hp, Int.toNat_natCast]
      simp [List.getD, hpl]
    · have hb' := g.bd k (by omega)
      have hne : p ≠ (pls TL k).toNat := fun q => e (g.inj k m (by omega) hm hn (by omega))
      have := h.hit k (by omega) hn
      rw [← this, List.getD_eq_getElem?_getD, List.getElem?_set_ne hne, ← List.getD_eq_getElem?_getD]
  · have hne : p ≠ q := fun e => hk m (by omega) (by rw [hp, e])
    rw [List.getD_eq_getElem?_getD, List.getElem?_set_ne hne, ← List.getD_eq_getElem?_getD]
    exact h.rest q hq fun k hkm => hk k (by omega)
/-- The one end, where the weight isn't above 0. -/
def sA (w : Int) : Bool := decide (¬ 0 < w)
def sB (w : Int) : Bool := decide (0 < w)
theorem smV_enL {lo hi p : Int} {A : List Int} (f : Int × Int → Int) : ∀ (TL : List (Int × Int)), (∀ t ∈ TL, smT p A t = f t) → smV p A TL = (TL.map f).sum
  | [], _ => rfl
  | t :: l, h => by
    rw [smV, smV_enL (lo := lo) (hi := hi) f l fun t ht => h t (List.mem_cons_of_mem _ ht), h t List.mem_cons_self]
    simp
theorem suS_sum : ∀ (E : List (Int × Int)) (s : Int × Int), (suS s E).1 = s.1 + (E.map (·.1)).sum ∧ (suS s E).2 = s.2 + (E.map (·.2)).sum
  | [], s => by simp [suS]
  | e :: E, s => by
    obtain ⟨h1, h2⟩ := suS_sum E (plS s e)
    have e1 : suS s (e :: E) = suS (plS s e) E := rfl
    rw [e1, h1, h2]
    simp only [plS, List.map_cons, List.sum_cons]
    omega
theorem Fl.at {n : Nat} {lo hi : Int} {s : Int → Bool} {TL : List (Int × Int)} {A : List Int} (h : Fl n lo hi s TL TL.length A) {t : Int × Int} (ht : t ∈ TL) (hn : ¬ t.2 < 0) : A.getD t.2.toNat 0 = if s t.1 = true then hi else lo := by
  obtain ⟨k, hk, e⟩ := List.getElem_of_mem ht
  have e2 : TL.getD k (0, 0) = t := by rw [List.getD_eq_getElem?_getD, List.getElem?_eq_getElem hk, e]; rfl
  have := h.hit k hk (by unfold pls; rw [e2]; exact hn)
  unfold pls wgs at this
  rw [e2] at this
  exact this
theorem Fl.lo {n : Nat} {lo hi p bi : Int} {TL : List (Int × Int)} {A : List Int} (h : Fl n lo hi sA TL TL.length A) : bi + smV p A TL = (suS (bi, bi) (enL lo hi p TL)).1 := by
  rw [(suS_sum _ _).1, smV_enL (lo := lo) (hi := hi) (fun t => (tmE lo hi p t).1) TL fun t ht => ?_]
  · unfold enL; rw [List.map_map]; rfl
  unfold smT tmE
  by_cases hn : t.2 < 0
  · rw [if_pos hn, if_pos hn, Int.mul_comm]
  · rw [if_neg hn, if_neg hn, h.at ht hn]
    unfold sA xti
    by_cases q : t.1 < 0
    · rw [if_pos q, if_pos (decide_eq_true (by omega)), Int.mul_comm]
    · rw [if_neg q]
      by_cases q0 : t.1 = 0
      · rw [q0]; simp
      · rw [if_neg (by simp; omega), Int.mul_comm]
theorem Fl.hi {n : Nat} {lo hi p bi : Int} {TL : List (Int × Int)} {A : List Int} (h : Fl n lo hi sB TL TL.length A) : bi + smV p A TL = (suS (bi, bi) (enL lo hi p TL)).2 := by
  rw [(suS_sum _ _).2, smV_enL (lo := lo) (hi := hi) (fun t => (tmE lo hi p t).2) TL fun t ht => ?_]
  · unfold enL; rw [List.map_map]; rfl
  unfold smT tmE
  by_cases hn : t.2 < 0
  · rw [if_pos hn, if_pos hn, Int.mul_comm]
  · rw [if_neg hn, if_neg hn, h.at ht hn]
    unfold sB xti
    by_cases q : t.1 < 0
    · rw [if_pos q, if_neg (by simp; omega), Int.mul_comm]
    · rw [if_neg q]
      by_cases q0 : t.1 = 0
      · rw [q0]; simp
      · rw [if_pos (decide_eq_true (by omega)), Int.mul_comm]
/-! ### Which ends were met -/
def orB (f : Nat → Bool) : Nat → Bool
  | 0 => false
  | m + 1 => orB f m || f m
theorem orB_of {f : Nat → Bool} {j : Nat} (hj : f j = true) : ∀ m, j < m → orB f m = true
  | 0, h => absurd h (Nat.not_lt_zero _)
  | m + 1, h => by
    unfold orB
    by_cases e : j = m
    · rw [← e, hj, Bool.or_true]
    · rw [orB_of hj m (by omega), Bool.true_or]
/-- The ends of whole sums: each row's lie within, and some row's is it. -/
theorem hbT_ends (bi : Int) (R : Nat → List (Int × Int)) (N : Nat) (hN : 0 < N) : (∃ j, j < N ∧ (suS (bi, bi) (R j)).1 = (hbT bi R N).1) ∧ ∃ j, j < N ∧ (suS (bi, bi) (R j)).2 = (hbT bi R N).2 := by
  have hne : piT (fun E => [suS (bi, bi) E]) R N ≠ [] := piT_ne hN (by simp)
  obtain ⟨-, ⟨x, hx, ex⟩, ⟨y, hy, ey⟩⟩ := huA_is hne
  obtain ⟨j, hj, hx'⟩ := mem_piT.1 hx
  obtain ⟨i, hi, hy'⟩ := mem_piT.1 hy
  rw [List.mem_singleton] at hx' hy'
  exact ⟨⟨j, hj, by rw [← hx']; exact ex⟩, ⟨i, hi, by rw [← hy']; exact ey⟩⟩
end Go.Proofs.Ytcphealigifdiaa

/- What greatestUnder and greatest of package plain return. -/
namespace Go.Proofs.Ytcphealigifdiaa
open Go.ChangeShapes Go.WideShapes Go.ChangeAt Go.RowKit
set_option linter.unusedVariables false
theorem grA_at {w c kw : Int} {xs : List Int} {t u d : Int} {i j : Nat} (hj : (j : Int) < kw) {q N : Nat} (hq : (q : Int) = i * kw + j) (hN : ((t + i) * w + (u + j)) * c + d = (N : Int)) : grA w c kw xs t u d q = xs.getD N 0 := by
  unfold grA
  obtain ⟨e1, e2⟩ := divmod_at (q := i) hj
  rw [hq, e1, e2, hN, Int.toNat_natCast]
theorem w64 {x : Int} (h : -9223372036854775808 ≤ x ∧ x ≤ 9223372036854775807) : IntKind.i64.wrap x = x := by rw [IntKind.wrap_i64]; omega
end Go.Proofs.Ytcphealigifdiaa

/- What greatest of package plain returns; lists that grow. -/
namespace Go.Proofs.Ytcphealigifdiaa
open Go.ChangeShapes Go.WideShapes Go.ChangeAt Go.RowKit
set_option linter.unusedVariables false
/-! ### Lists that grow -/
/-- 'make' of none, with room. -/
theorem wpList_mk0 {k : IntKind} {T S : TypeId} {by8 : Nat} (kt : KT k T S by8) {w : World} {ops : Array Oper} {rest : List Oper} {o : Oper} {a : Act} {Q : Exit → Act → World → Prop} (hg : o.guard = none) (l c : Operand) (hop : o.op = Op.makeSlice S l c)
    (m : Nat) (M : Int) (hl : a.eval l = Jv 0) (hc : a.eval c = Jv M) (hM : M = (m : Int)) (hm : m ≤ 10000000) (base : Nat) (hb : base ≤ w.heap.size)
    (hK : ∀ v w', Own k T w' base v [] → Below w.heap.size w w' → wpList Try.prog ops Q rest (a.put o.dst v) w') : wpList Try.prog ops Q (o :: rest) a w := by
  obtain ⟨hu, hin, b1, b8⟩ := kt
  obtain ⟨i0, hi, hz0, hz1, hz2⟩ := info_parts hin
  subst hM
  have hby : by8 * m ≤ 8 * m := Nat.mul_le_mul_right _ b8
  have hby' : (by8 : Int) * (m : Int) ≤ 281474976710656 := by
    have : ((by8 * m : Nat) : Int) ≤ 281474976710656 := by omega
    rwa [Int.natCast_mul] at this
  refine wpList_plain hg fun K hK' => ?_
  have hr := run_make (P := Try.prog) w S T i0 (.int k 0) hu hi hz0 .i64 .i64 ((0 : Nat) : Int) m (by omega) (by omega) (by rw [hz2]; exact hby') (by omega)
  simp only [Int.toNat_natCast, hz1] at hr
  unfold Oper.wp
  simp only [execOp, hop, hl, hc]
  simp [Result.andThen]
  have hr' := hr
  simp only [Int.natCast_zero] at hr'
  rw [hr']
  refine hK' _ _ (hK _ _ ⟨⟨by simp, .inr ⟨w.heap.size, m, _, rfl, hb, heap_alloc_new w _, Nat.zero_le _, by unfold maxLen; omega, by rw [size_madeCells], by simp⟩⟩, Wf.nil k⟩ (bal _ _))
/-- 'append' of numbers, in a region that draws its order. -/
theorem step_ap {k : IntKind} {T S : TypeId} {by8 : Nat} (kt : KT k T S by8) {w : World} {ops : Array Oper} {o : Oper} {a : Act} {K : Act → World → Prop} {Q : Exit → Act → World → Prop} {E : Prop} (hgd : o.guard = none) (s x : Operand)
    (ho : o.op = .call { callee := .builtin .append, args := #[s, x], argTypes := #[S, S] })
    (base : Nat) (v : Value) (xs ys : List Int) (hs : a.eval s = v) (hown : Own k T w base v xs) (ad : Addr) (m c : Nat) (hx : a.eval x = .slice (some ad) m c) (hy : IRow k w (some ad) m c ys)
    (hlen : xs.length + ys.length ≤ 10000000) (hbase : base ≤ w.heap.size)
    (hK : ∀ v' w', Own k T w' base v' (xs ++ ys) → w.grownBy w' v.ownBlock → K (a.put o.dst v') w') : if Region.wanted o (yielded ops a.tmps) = true then Oper.wp Try.prog o a w K Q else E := by
  have hw : Region.wanted o (yielded ops a.tmps) = true := by simp [Region.wanted, hgd]
  rw [if_pos hw]
  obtain ⟨hu, hin, b1, b8⟩ := kt
  obtain ⟨i0, hi, hz0, hz1, hz2⟩ := info_parts hin
  obtain ⟨hl, hc, hm, hb, hn, hcell⟩ := hy
  have hby : by8 * (xs.length + ys.length) ≤ 8 * (xs.length + ys.length) := Nat.mul_le_mul_right _ b8
  have hby' : (xs.length + m) * by8 ≤ 140737488355328 := by rw [hl] at hby hlen; rw [Nat.mul_comm]; omega
  have hcs : ∀ j u, (ys.map (Value.int k))[j]? = some u → w.cell? (ad.add j) = some u := by
    intro j u hj
    have hj' : j < m := by
      have := (List.getElem?_eq_some_iff.1 hj).1
      simpa [hl] using this
    rw [hcell ad rfl j hj']
    simp [List.getD, show j < ys.length by omega] at hj ⊢
    exact hj
  obtain ⟨v', w', hrun, r1, r2, r3⟩ := run_append_own (P := Try.prog) w base S o.type T i0 (.int k 0) 1 by8 hu hi hz0 hz1 hz2 rfl (by omega) v xs.length _ hown.1 ad m c (ys.map (Value.int k)) (by simp [hl]) hcs (ints_oneCell _ _) (by unfold maxLen; omega) hby' hbase
  unfold Oper.wp
  simp [execOp, ho, resolve, invoke, builtin, hs, hx, hrun, Result.andThen]
  refine hK v' w' ⟨?_, hown.2.app hb⟩ r2
  rw [List.length_append, hl, List.map_append]
  exact r1
theorem gr_idx {VN CN i j d : Nat} (hj : j < VN) (hd : d < CN) : ((((i * VN + j) * CN + d : Nat) : Int) / (CN : Int) / (VN : Int) = i ∧ (((i * VN + j) * CN + d : Nat) : Int) / (CN : Int) % (VN : Int) = j) ∧ (((i * VN + j) * CN + d : Nat) : Int) % (CN : Int) = d := by
  obtain ⟨e1, e2⟩ := divmod_at (C := (CN : Int)) (q := i * VN + j) (d := d) (by omega)
  obtain ⟨e3, e4⟩ := divmod_at (C := (VN : Int)) (q := i) (d := j) (by omega)
  rw [Int.natCast_add, Int.natCast_mul, e1, e2, Int.natCast_add, Int.natCast_mul, e3, e4]
  exact ⟨⟨rfl, rfl⟩, rfl⟩
theorem step_in {i H sh kh h : Int} (hi : 0 ≤ i ∧ i < H) (hs : 1 ≤ sh) (hf : (H - 1) * sh + kh ≤ h) : 0 ≤ i * sh ∧ i * sh + kh ≤ h := by
  have a := Int.mul_le_mul_of_nonneg_right (show i ≤ H - 1 by omega) (show 0 ≤ sh by omega)
  have b := Int.mul_nonneg hi.1 (show 0 ≤ sh by omega)
  omega
end Go.Proofs.Ytcphealigifdiaa

/- What sums of package plain returns: all sums of an op that reduces. -/
namespace Go.Proofs.Ytcphealigifdiaa
open Go.ChangeShapes Go.WideShapes Go.ChangeAt Go.RowKit
set_option linter.unusedVariables false
theorem St.ad {w0 w : World} {B : Nat} {c : Array Value} {t : TypeId} {l : List (Nat × Array Value × TypeId)} (h : St w0 w l) (hb : w.heap[B]? = some (.cells c t (0, 0))) (hB : w0.heap.size ≤ B) : St w0 w ((B, c, t) :: l) :=
  ⟨h.1, fun x hx => by
    rcases List.mem_cons.1 hx with rfl | hx
    · exact ⟨hb, hB⟩
    · exact h.2 x hx⟩
/-- An append to a list of another type leaves the listed blocks. -/
theorem St.grow {w0 w w' : World} {k : IntKind} {T : TypeId} {base : Nat} {v : Value} {zs : List Int} {l : List (Nat × Array Value × TypeId)} (h : St w0 w l) (o : Own k T w base v zs) (g : w.grownBy w' v.ownBlock) (hB : w0.heap.size ≤ base) (hT : ∀ x ∈ l, x.2.2 ≠ T) : St w0 w' l :=
  ⟨o.bel h.1 g hB h.1.size, fun x hx => by
    have hx' := h.2 x hx
    refine ⟨?_, hx'.2⟩
    rw [g.block x.1 (lt_of_heap hx'.1) (own_ne o.1 hx'.1 (hT x hx))]
    exact hx'.1⟩
theorem of_alone (k a b m kh kw sh sw tp lf bt rt : Int) (wa : Option Addr) (lw wc : Nat) (ba : Option Addr) (lb bc : Nat) (sm ss um us z p lo hi h w c H V C : Int) (s : Opd k b m kh kw sh sw tp lf bt rt lw lb sm ss um us z p lo hi h w c H V C) (hk : k ≤ 4) (zs bs : List Int) (W : World) (hZ : IRow .i16 W wa lw wc zs) (hB : IRow .i32 W ba lb bc bs) (hlw : lw * 2 ≤ 140737488351232) (hlb : lb * 4 ≤ 140737488351232) (g : Nat) (hg : W.heap[g]? = some (.cells #[Jv k, Jv 0, Jv b, Jv m, Jv kh, Jv kw, Jv sh, Jv sw, Jv tp, Jv lf, Jv bt, Jv rt, .slice wa lw wc, .slice ba lb bc, Jv sm, Jv ss, Jv um, Jv us, Jv z, Jv p, Jv lo, Jv hi] 47 (0, 0))) (ch at' : Int) (hch : 1 ≤ ch ∧ ch ≤ C) (hat : 0 ≤ at' ∧ at' < H * V) :
    Calls Try.prog 7 #[.agg #[Jv h, Jv w, Jv c, Jv 0, Jv 0, .slice (some ⟨g, 0, none⟩) 1 1, Jv 0], Jv 1, Jv ch, Jv at'] W fun e w' => (∃ v, e = .returned (.tuple #[v, Jv (biA k ch bs), Jv 0]) ∧ OTm w' W.heap.size v (siL k kh kw sh sw tp lf bt rt h w c ch at' zs)) ∧ Below W.heap.size W w' := by
  obtain ⟨Rw, hR⟩ := alone_g (a := 0) s hk
  have hcell : ∀ q v, [Jv k, Jv 0, Jv b, Jv m, Jv kh, Jv kw, Jv sh, Jv sw, Jv tp, Jv lf, Jv bt, Jv rt, .slice wa lw wc, .slice ba lb bc, Jv sm, Jv ss, Jv um, Jv us, Jv z, Jv p, Jv lo, Jv hi][q]? = some v → W.cell? ((⟨g, 0, none⟩ : Addr).add q) = some v := lcells hg (fget [Jv k, Jv 0, Jv b, Jv m, Jv kh, Jv kw, Jv sh, Jv sw, Jv tp, Jv lf, Jv bt, Jv rt, .slice wa lw wc, .slice ba lb bc, Jv sm, Jv ss, Jv um, Jv us, Jv z, Jv p, Jv lo, Jv hi] [])
  have e0 : ((⟨g, 0, none⟩ : Addr).add (0 * 22)) = ⟨g, 0, none⟩ := by rw [Addr.add_lit]
  have hL : LRow W (some ⟨g, 0, none⟩) 1 1 (fun _ => oL k 0 b m kh kw sh sw tp lf bt rt (lw : Int) (lb : Int) sm ss um us z p lo hi) (fun _ => zs) (fun _ => bs) := by
    refine ⟨Nat.le_refl _, by unfold maxLen; omega, (fun h => by cases h), fun x hx i hi => ?_⟩
    cases hx
    obtain rfl : i = 0 := by omega
    rw [e0]
    exact ⟨wa, lw, wc, ba, lb, bc, rfl, rfl, hcell, hZ, hB, hlw, hlb⟩
  have hF : Fnd W (some ⟨g, 0, none⟩) 1 (fun _ => oL k 0 b m kh kw sh sw tp lf bt rt (lw : Int) (lb : Int) sm ss um us z p lo hi) (fun _ => zs) (fun _ => bs) [(h, w, c), (H, V, C)] 0 ⟨g, 0, none⟩ wa lw wc ba lb bc h w c H V C :=
    ⟨by omega, rfl, rfl, rfl, fun q v hq => by rw [e0]; exact hcell q v hq, hZ, hB, rfl, rfl, s.si hk, ⟨Int.le_refl _, Int.le_refl _⟩, decide_eq_true (show 1 ≤ k ∧ k ≤ 4 by have := s.hk; omega)⟩
  exact of_ok h w c 0 0 0 (some ⟨g, 0, none⟩) 1 1 (fun _ => oL k 0 b m kh kw sh sw tp lf bt rt (lw : Int) (lb : Int) sm ss um us z p lo hi) (fun _ => zs) (fun _ => bs) W hL ch at' [(h, w, c), (H, V, C)] Rw hR 0 ⟨g, 0, none⟩ wa lw wc ba lb bc h w c H V C hF hch hat
set_option maxRecDepth 100000 in
set_option maxHeartbeats 8000000 in
theorem sums_any (k a b m kh kw sh sw tp lf bt rt : Int) (wa : Option Addr) (lw wc : Nat) (ba : Option Addr) (lb bc : Nat) (sm ss um us z p lo hi h w c H V C : Int) (r : Nat) (W : World) (hr : W.heap[r]? = some (.cells #[Jv k, Jv a, Jv b, Jv m, Jv kh, Jv kw, Jv sh, Jv sw, Jv tp, Jv lf, Jv bt, Jv rt, .slice wa lw wc, .slice ba lb bc, Jv sm, Jv ss, Jv um, Jv us, Jv z, Jv p, Jv lo, Jv hi, Jv h, Jv w, Jv c, Jv H, Jv V, Jv C] 90 (0, 0))) (s : Opd k b m kh kw sh sw tp lf bt rt lw lb sm ss um us z p lo hi h w c H V C) (hk : k ≤ 4) (zs bs : List Int) (hZ : IRow .i16 W wa lw wc zs) (hB : IRow .i32 W ba lb bc bs) (hlw : lw * 2 ≤ 140737488351232) (hlb : lb * 4 ≤ 140737488351232) (ad : Option Addr) (n cap : Nat) (xs : List Int) (hX : IRow .i8 W ad n cap xs) (hn : (n : Int) = h * w * c) :
    Calls Try.prog 37 #[.pointer (some ⟨r, 0, none⟩), .slice ad n cap] W fun e w' => (∃ v, e = .returned v ∧ Own .i64 2 w' W.heap.size v (suL k kh kw sh sw tp lf bt rt h w c C p zs bs xs (H * V * C).toNat)) ∧ Below W.heap.size W w' := by
  have hrz := lt_of_heap hr
  have hp8 : I8 p := by have := s.rz; unfold rzB vlB at this; simp at this; exact ⟨this.2.1, this.2.2⟩
  have HR : Hid (W.heap[r]? = some (.cells #[Jv k, Jv a, Jv b, Jv m, Jv kh, Jv kw, Jv sh, Jv sw, Jv tp, Jv lf, Jv bt, Jv rt, .slice wa lw wc, .slice ba lb bc, Jv sm, Jv ss, Jv um, Jv us, Jv z, Jv p, Jv lo, Jv hi, Jv h, Jv w, Jv c, Jv H, Jv V, Jv C] 90 (0, 0))) := hr
  have HAl : Hid (Calls Try.prog 56 #[.pointer (some ⟨r, 0, none⟩)] W _) := alone_any k a b m kh kw sh sw tp lf bt rt wa lw wc ba lb bc sm ss um us z p lo hi h w c H V C r W hr
  have HP : Hid (∀ W, Calls Try.prog 36 #[.agg #[Jv H, Jv V, Jv C]] W fun e w' => e = .returned (Jv (H * V * C)) ∧ Below W.heap.size W w') := fun W => places_plain H V C W s.hB
  have HOf : Hid (∀ (w' : World) (g : Nat), Below W.heap.size W w' → w'.heap[g]? = some (.cells #[Jv k, Jv 0, Jv b, Jv m, Jv kh, Jv kw, Jv sh, Jv sw, Jv tp, Jv lf, Jv bt, Jv rt, .slice wa lw wc, .slice ba lb bc, Jv sm, Jv ss, Jv um, Jv us, Jv z, Jv p, Jv lo, Jv hi] 47 (0, 0)) → ∀ ch at' : Int, (1 ≤ ch ∧ ch ≤ C) → (0 ≤ at' ∧ at' < H * V) → Calls Try.prog 7 #[.agg #[Jv h, Jv w, Jv c, Jv 0, Jv 0, .slice (some ⟨g, 0, none⟩) 1 1, Jv 0], Jv 1, Jv ch, Jv at'] w' fun e w'' => (∃ v, e = .returned (.tuple #[v, Jv (biA k ch bs), Jv 0]) ∧ OTm w'' w'.heap.size v (siL k kh kw sh sw tp lf bt rt h w c ch at' zs)) ∧ Below w'.heap.size w' w'') :=
    fun w' g hb hg ch at' hch hat => of_alone k a b m kh kw sh sw tp lf bt rt wa lw wc ba lb bc sm ss um us z p lo hi h w c H V C s hk zs bs w' (hZ.below hb) (hB.below hb) hlw hlb g hg ch at' hch hat
  have HSm : Hid (∀ (w' : World), Below W.heap.size W w' → ∀ (v : Value) (ch at' : Int), (1 ≤ ch ∧ ch ≤ C) → TV w' v (siL k kh kw sh sw tp lf bt rt h w c ch at' zs) → Calls Try.prog 57 #[.pointer (some ⟨r, 0, none⟩), v, .slice ad n cap] w' fun e w'' => e = .returned (Jv (smV p xs (siL k kh kw sh sw tp lf bt rt h w c ch at' zs))) ∧ Below w'.heap.size w' w'') :=
    fun w' hb v ch at' hch hT => by
      obtain ⟨f1, f2⟩ := siL_facts (s.si hk) hZ.2.2.2.1 hch at'
      rw [← hn] at f2
      exact sum_any k a b m kh kw sh sw tp lf bt rt wa lw wc ba lb bc sm ss um us z p lo hi h w c H V C r w' ((hb.block r hrz).trans hr) v _ hT ad n cap xs (hX.below hb) hp8 f1 f2
  have HSb : Hid (∀ ch at' : Int, (1 ≤ ch ∧ ch ≤ C) → (-4294967296 ≤ suA k kh kw sh sw tp lf bt rt h w c p zs bs xs ch at' ∧ suA k kh kw sh sw tp lf bt rt h w c p zs bs xs ch at' ≤ 4294967296) ∧ suA k kh kw sh sw tp lf bt rt h w c p zs bs xs ch at' = biA k ch bs + smV p xs (siL k kh kw sh sw tp lf bt rt h w c ch at' zs)) := fun ch at' hch => ⟨suA_bd (s.si hk) hZ.2.2.2.1 hB.2.2.2.1 hp8 hX.i8 hch at', rfl⟩
  obtain ⟨hH, hV, hC, -⟩ := vS_yes s.hB
  have p3 := vS_bd s.hB
  clear hr hZ hB hX hn s hlw hlb hp8
  obtain ⟨CN, rfl⟩ : ∃ CN : Nat, C = (CN : Int) := ⟨C.toNat, by omega⟩
  obtain ⟨P, hP⟩ : ∃ P : Nat, H * V = (P : Int) := ⟨(H * V).toNat, by omega⟩
  rw [hP] at HP HOf p3 ⊢
  obtain ⟨N, hN⟩ : ∃ N : Nat, (P : Int) * (CN : Int) = (N : Int) := ⟨P * CN, by rw [Int.natCast_mul]⟩
  have HNN : Hid (P * CN = N) := by
    have : ((P * CN : Nat) : Int) = (N : Int) := by rw [Int.natCast_mul]; exact hN
    unfold Hid; omega
  rw [hN] at HP p3 ⊢
  rw [Int.toNat_natCast]
  clear hN
  obtain ⟨c1, f1, z1⟩ := cells_at HR.out
  go_enter Try.func37, Try.ntmps37
  go_wp2_with fail
  refine HAl.out.mono ?_
  rintro e w1 ⟨g, rfl, hgc, hgb, hb1⟩
  obtain ⟨mb, hmb⟩ : ∃ mb, w1.heap.size = mb := ⟨_, rfl⟩
  have s1 := (((St.start W).call hb1).ad hgc hgb).new (c := #[Jv h, Jv w, Jv c, Jv 0, Jv 0, .slice (some ⟨g, 0, none⟩) 1 1, Jv 0]) (t := 26)
  clear hb1 hgc c1 f1 HAl
  obtain ⟨c2, f2, z2⟩ := cells_at ((s1.below.block r hrz).trans HR.out)
  go_wp2_with fail
  rw [hmb] at s1
  clear hmb
  refine (HP.out _).mono ?_
  rintro e w2 ⟨rfl, hb2⟩
  have S2 : Hid (St W w2 [(mb, #[Jv h, Jv w, Jv c, Jv 0, Jv 0, .slice (some ⟨g, 0, none⟩) 1 1, Jv 0], 26), (g, #[Jv k, Jv 0, Jv b, Jv m, Jv kh, Jv kw, Jv sh, Jv sw, Jv tp, Jv lf, Jv bt, Jv rt, .slice wa lw wc, .slice ba lb bc, Jv sm, Jv ss, Jv um, Jv us, Jv z, Jv p, Jv lo, Jv hi], 47)]) := s1.call hb2
  clear s1 hb2 c2 f2 z2 HP
  go_wp2_with (at_make; refine wpList_mk0 kt_i64 rfl _ _ rfl N _ rfl rfl rfl (by omega) W.heap.size S2.out.size ?_; intro v0 w3 own0 hb3; have S3 : Hid (St W w3 [(mb, #[Jv h, Jv w, Jv c, Jv 0, Jv 0, .slice (some ⟨g, 0, none⟩) 1 1, Jv 0], 26), (g, #[Jv k, Jv 0, Jv b, Jv m, Jv kh, Jv kw, Jv sh, Jv sw, Jv tp, Jv lf, Jv bt, Jv rt, .slice wa lw wc, .slice ba lb bc, Jv sm, Jv ss, Jv um, Jv us, Jv z, Jv p, Jv lo, Jv hi], 47)]) := S2.out.call hb3; have Ho0 : Hid (Own .i64 2 w3 W.heap.size v0 []) := own0; clear own0 hb3 S2; obtain ⟨c1, f1, z1'⟩ := cells_at ((S3.out.below.block r hrz).trans HR.out))
  go_quiet (fail)
  have S4 : Hid (St W (w3.drewN nq) [(mb, #[Jv h, Jv w, Jv c, Jv 0, Jv 0, .slice (some ⟨g, 0, none⟩) 1 1, Jv 0], 26), (g, #[Jv k, Jv 0, Jv b, Jv m, Jv kh, Jv kw, Jv sh, Jv sw, Jv tp, Jv lf, Jv bt, Jv rt, .slice wa lw wc, .slice ba lb bc, Jv sm, Jv ss, Jv um, Jv us, Jv z, Jv p, Jv lo, Jv hi], 47)]) := S3.out.call (dbel _ _)
  have Ho4 : Hid (Own .i64 2 (w3.drewN nq) W.heap.size v0 []) := Ho0.out.below (dbel _ _)
  obtain ⟨w4, hw4⟩ : ∃ w4, w3.drewN nq = w4 := ⟨_, rfl⟩
  rw [hw4] at S4 Ho4 ⊢
  clear hw4 S3 Ho0 c1 f1
  go_wp2
  go_loopw [6, 31] (fun v i wr => ∃ (y : Nat) (v1 : Value), v1 = v ∧ y ≤ P ∧ i = Jv y ∧ Own .i64 2 wr W.heap.size v (suL k kh kw sh sw tp lf bt rt h w c CN p zs bs xs (y * CN)) ∧ St W wr [(mb, #[Jv h, Jv w, Jv c, Jv 0, Jv 0, .slice (some ⟨g, 0, none⟩) 1 1, Jv 0], 26), (g, #[Jv k, Jv 0, Jv b, Jv m, Jv kh, Jv kw, Jv sh, Jv sw, Jv tp, Jv lf, Jv bt, Jv rt, .slice wa lw wc, .slice ba lb bc, Jv sm, Jv ss, Jv um, Jv us, Jv z, Jv p, Jv lo, Jv hi], 47)]) (fun _ i _ => P - (intOf i).toNat)
  case atStart => exact ⟨0, _, rfl, Nat.zero_le _, rfl, by simpa [suL] using Ho4.out, S4.out⟩
  case round =>
    obtain ⟨y, v1, rfl, hy, rfl, hO, sr⟩ := hrel
    clear S4 Ho4
    obtain ⟨c1, f1, z4⟩ := cells_at ((sr.below.block r hrz).trans HR.out)
    have HO : Hid (Own .i64 2 wr W.heap.size v1 (suL k kh kw sh sw tp lf bt rt h w c CN p zs bs xs (y * CN))) := hO
    have SR : Hid (St W wr [(mb, #[Jv h, Jv w, Jv c, Jv 0, Jv 0, .slice (some ⟨g, 0, none⟩) 1 1, Jv 0], 26), (g, #[Jv k, Jv 0, Jv b, Jv m, Jv kh, Jv kw, Jv sh, Jv sw, Jv tp, Jv lf, Jv bt, Jv rt, .slice wa lw wc, .slice ba lb bc, Jv sm, Jv ss, Jv um, Jv us, Jv z, Jv p, Jv lo, Jv hi], 47)]) := sr
    clear hO sr
    by_cases hlt : y < P
    · go_wp2
      go_loopw [6, 8] (fun v i wr => ∃ (d : Nat) (v2 : Value), v2 = v ∧ d ≤ CN ∧ i = Jv ((d : Int) + 1) ∧ Own .i64 2 wr W.heap.size v (suL k kh kw sh sw tp lf bt rt h w c CN p zs bs xs (y * CN + d)) ∧ St W wr [(mb, #[Jv h, Jv w, Jv c, Jv 0, Jv 0, .slice (some ⟨g, 0, none⟩) 1 1, Jv 0], 26), (g, #[Jv k, Jv 0, Jv b, Jv m, Jv kh, Jv kw, Jv sh, Jv sw, Jv tp, Jv lf, Jv bt, Jv rt, .slice wa lw wc, .slice ba lb bc, Jv sm, Jv ss, Jv um, Jv us, Jv z, Jv p, Jv lo, Jv hi], 47)]) (fun _ i _ => CN + 1 - (intOf i).toNat)
      case atStart => exact ⟨0, _, rfl, Nat.zero_le _, rfl, HO.out, SR.out⟩
      case round =>
        obtain ⟨d, v2, rfl, hd, rfl, hO, sr⟩ := hrel
        clear c1 f1 HO SR
        obtain ⟨c1, f1, z5⟩ := cells_at ((sr.below.block r hrz).trans HR.out)
        have HO : Hid (Own .i64 2 wr W.heap.size v2 (suL k kh kw sh sw tp lf bt rt h w c CN p zs bs xs (y * CN + d))) := hO
        have SR : Hid (St W wr [(mb, #[Jv h, Jv w, Jv c, Jv 0, Jv 0, .slice (some ⟨g, 0, none⟩) 1 1, Jv 0], 26), (g, #[Jv k, Jv 0, Jv b, Jv m, Jv kh, Jv kw, Jv sh, Jv sw, Jv tp, Jv lf, Jv bt, Jv rt, .slice wa lw wc, .slice ba lb bc, Jv sm, Jv ss, Jv um, Jv us, Jv z, Jv p, Jv lo, Jv hi], 47)]) := sr
        obtain ⟨c2, f2, z6, -⟩ := sr.rules
        clear hO sr
        by_cases hltd : d < CN
        · have hch : 1 ≤ (d : Int) + 1 ∧ (d : Int) + 1 ≤ (CN : Int) := by omega
          have HS := suL_succ k kh kw sh sw tp lf bt rt h w c (CN : Int) p zs bs xs (y * CN + d)
          obtain ⟨e1, e2⟩ := divmod_at (C := (CN : Int)) (q := y) (d := d) (by omega)
          rw [Int.natCast_add, Int.natCast_mul, e1, e2] at HS
          obtain ⟨⟨b1, b2⟩, hsu⟩ := HSb.out ((d : Int) + 1) (y : Int) hch
          have HC1 : Hid (∀ (w' : World), Below W.heap.size W w' → w'.heap[g]? = some (.cells #[Jv k, Jv 0, Jv b, Jv m, Jv kh, Jv kw, Jv sh, Jv sw, Jv tp, Jv lf, Jv bt, Jv rt, .slice wa lw wc, .slice ba lb bc, Jv sm, Jv ss, Jv um, Jv us, Jv z, Jv p, Jv lo, Jv hi] 47 (0, 0)) → _) := fun w' hb hg => HOf.out w' g hb hg ((d : Int) + 1) y hch ⟨by omega, by omega⟩
          have HC2 : Hid (∀ (w' : World), Below W.heap.size W w' → ∀ v, TV w' v _ → _) := fun w' hb v hT => HSm.out w' hb v ((d : Int) + 1) y hch hT
          obtain ⟨TL, hTL⟩ : ∃ TL, siL k kh kw sh sw tp lf bt rt h w c ((d : Int) + 1) (y : Int) zs = TL := ⟨_, rfl⟩
          obtain ⟨bi, hbi⟩ : ∃ bi, biA k ((d : Int) + 1) bs = bi := ⟨_, rfl⟩
          obtain ⟨sv, hsv⟩ : ∃ sv, smV p xs TL = sv := ⟨_, rfl⟩
          rw [hTL] at HC1 HC2 hsu
          rw [hsv] at HC2 hsu
          rw [hbi] at HC1 hsu
          rw [hsu] at b1 b2 HS
          have HSS : Hid (suL k kh kw sh sw tp lf bt rt h w c CN p zs bs xs (y * CN + d + 1) = suL k kh kw sh sw tp lf bt rt h w c CN p zs bs xs (y * CN + d) ++ [bi + sv]) := HS
          have HLn : Hid (y * CN + d ≤ 16384) := by
            unfold Hid
            have q1 : (y + 1) * CN ≤ P * CN := Nat.mul_le_mul_right _ hlt
            rw [HNN.out, Nat.add_mul] at q1
            omega
          clear HS e1 e2 hsu hTL hbi hsv
          obtain ⟨D, hD⟩ : ∃ D : Int, (d : Int) + 1 = D := ⟨_, rfl⟩
          rw [hD] at HC1 hch ⊢
          have HD : Hid ((d : Int) + 1 = D) := hD
          clear hD
          go_wp2_with fail
          refine (HC1.out _ SR.out.below SR.out.h2).mono ?_
          rintro e w5 ⟨⟨v, rfl, hOT⟩, hb5⟩
          obtain ⟨va, vc, rfl⟩ := hOT.slice
          have HT5 : Hid (TV w5 (.slice va TL.length vc) TL) := hOT.tv
          have S5 : Hid (St W w5 [(mb, #[Jv h, Jv w, Jv c, Jv 0, Jv 0, .slice (some ⟨g, 0, none⟩) 1 1, Jv 0], 26), (g, #[Jv k, Jv 0, Jv b, Jv m, Jv kh, Jv kw, Jv sh, Jv sw, Jv tp, Jv lf, Jv bt, Jv rt, .slice wa lw wc, .slice ba lb bc, Jv sm, Jv ss, Jv um, Jv us, Jv z, Jv p, Jv lo, Jv hi], 47)]) := SR.out.call hb5
          have O5 : Hid (Own .i64 2 w5 W.heap.size v2 (suL k kh kw sh sw tp lf bt rt h w c CN p zs bs xs (y * CN + d))) := HO.out.below hb5
          obtain ⟨tl, htl⟩ : ∃ tl, TL.length = tl := ⟨_, rfl⟩
          rw [htl] at HT5 ⊢
          clear hOT hb5 HO SR htl c1 f1 c2 f2
          go_wp2_with fail
          refine (HC2.out _ S5.out.below _ HT5.out).mono ?_
          rintro e w6 ⟨rfl, hb6⟩
          have S6 : Hid (St W w6 [(mb, #[Jv h, Jv w, Jv c, Jv 0, Jv 0, .slice (some ⟨g, 0, none⟩) 1 1, Jv 0], 26), (g, #[Jv k, Jv 0, Jv b, Jv m, Jv kh, Jv kw, Jv sh, Jv sw, Jv tp, Jv lf, Jv bt, Jv rt, .slice wa lw wc, .slice ba lb bc, Jv sm, Jv ss, Jv um, Jv us, Jv z, Jv p, Jv lo, Jv hi], 47)]) := S5.out.call hb6
          have O6 : Hid (Own .i64 2 w6 W.heap.size v2 (suL k kh kw sh sw tp lf bt rt h w c CN p zs bs xs (y * CN + d))) := O5.out.below hb6
          clear hb6 S5 O5 HC1 HC2
          go_wp2_with (at_builtin; refine wpList_app kt_i64 rfl (.tmp 51) (.tmp 58) rfl W.heap.size v2 (suL k kh kw sh sw tp lf bt rt h w c CN p zs bs xs (y * CN + d)) [bi + sv] rfl (O6.out.alloc _) _ _ _ rfl (row_one .i64 2 w6 (bi + sv) (mk_i64 (by omega))) (by rw [suL_len]; have := HLn.out; simp; omega) (by have := S6.out.size; simp; omega) ?_; intro v7 w7 own7 gr7 nn7; have S7 : Hid (St W w7 [(mb, #[Jv h, Jv w, Jv c, Jv 0, Jv 0, .slice (some ⟨g, 0, none⟩) 1 1, Jv 0], 26), (g, #[Jv k, Jv 0, Jv b, Jv m, Jv kh, Jv kw, Jv sh, Jv sw, Jv tp, Jv lf, Jv bt, Jv rt, .slice wa lw wc, .slice ba lb bc, Jv sm, Jv ss, Jv um, Jv us, Jv z, Jv p, Jv lo, Jv hi], 47)]) := (S6.out.skip (.cells #[Jv (bi + sv)] 2)).grow (O6.out.alloc _) gr7 (Nat.le_refl _) (by simp); have O7 : Hid (Own .i64 2 w7 W.heap.size v7 (suL k kh kw sh sw tp lf bt rt h w c CN p zs bs xs (y * CN + d + 1))) := (by rw [HSS.out]; exact own7); clear own7 gr7 nn7 S6 O6)
          go_roundw
          case rel => exact ⟨d + 1, _, rfl, by omega, by rw [← HD.out]; go_num, O7.out, S7.out⟩
          case measure => have := HD.out; simp [intOf]; omega
        · obtain rfl : d = CN := by omega
          have Ho2 : Hid (Own .i64 2 wr W.heap.size v2 (suL k kh kw sh sw tp lf bt rt h w c d p zs bs xs ((y + 1) * d))) := by
            have e : (y + 1) * d = y * d + d := by rw [Nat.add_mul, Nat.one_mul]
            unfold Hid
            rw [e]; exact HO.out
          clear HO
          go_wp2
          go_roundw
          case rel => exact ⟨y + 1, _, rfl, by omega, by go_num, Ho2.out, SR.out⟩
          case measure => simp [intOf]; omega
    · obtain rfl : y = P := by omega
      have HO2 : Hid (Own .i64 2 wr W.heap.size v1 (suL k kh kw sh sw tp lf bt rt h w c CN p zs bs xs N)) := by rw [← HNN.out]; exact HO.out
      go_wp2
      go_ret
      exact ⟨⟨_, rfl, HO2.out⟩, SR.out.below⟩
end Go.Proofs.Ytcphealigifdiaa

/- What Totals of package plain returns. -/
namespace Go.Proofs.Ytcphealigifdiaa
open Go.ChangeShapes Go.WideShapes Go.ChangeAt Go.RowKit
set_option linter.unusedVariables false
set_option maxHeartbeats 2000000 in
theorem totals_e (h w c lo hi ot op : Int) (oa : Option Addr) (on oc : Nat) (O : Nat → Nat → Int) (W : World) (hM : MRow W oa on oc O) (Re Ra Rw : Int) (RL : List (Int × Int × Int)) (hR : gtR O h w c lo hi ot on = (Re, Ra, RL, Rw)) (he : Re ≠ 0) (ad : Option Addr) (n cap' : Nat) :
    Calls Try.prog 15 #[.agg #[Jv h, Jv w, Jv c, Jv lo, Jv hi, .slice oa on oc, Jv ot], Jv op, .slice ad n cap'] W fun e w' => e = .returned (.tuple #[.slice none 0 0, Jv Re]) ∧ Below W.heap.size W w' := by
  have hS : Hid (∀ W, MRow W oa on oc O → _) := fun W hW => shapes_any h w c lo hi ot oa on oc O W hW
  rw [hR] at hS
  simp only at hS
  have hM2 : Hid (MRow W oa on oc O) := hM
  have he' : (Re == 0) = false := by simp [he]
  clear hR hM
  have s0 := (St.start W).new (c := #[Jv h, Jv w, Jv c, Jv lo, Jv hi, .slice oa on oc, Jv ot]) (t := 26)
  go_enter Try.func15, Try.ntmps15
  go_wp2_with fail
  refine Calls.mono (hS.out _ (hM2.out.below s0.below)) ?_
  rintro e w1 ⟨v, rfl, hSh, hb⟩
  obtain ⟨va, vc, rfl⟩ := hSh.slice
  have s1 := (s0.call hb).new (c := #[Jv Re, Jv Ra, Jv 0]) (t := 83)
  obtain ⟨c1, f1, z1, -⟩ := (s0.call hb).rules
  clear hb hSh hS hM2 s0
  go_upto_region 2 with fail
  obtain ⟨w2, hw2⟩ : ∃ w2, w1.alloc (.cells #[Jv Re, Jv Ra, Jv 0] 83) = w2 := ⟨_, rfl⟩
  rw [hw2] at s1 ⊢
  clear hw2 c1 f1 z1
  obtain ⟨c1, f1, z1, -⟩ := s1.rules
  have S1 : Hid (St W w2 _) := s1
  clear s1
  go_wp2
  go_quiet (fail)
  go_wp2
  go_ret2
  exact ⟨rfl, btr S1.out.below (dbel _ _)⟩
set_option maxHeartbeats 2000000 in
theorem totals_3 (h w c lo hi ot op : Int) (oa : Option Addr) (on oc : Nat) (O : Nat → Nat → Int) (W : World) (hM : MRow W oa on oc O) (Ra Rw : Int) (RL : List (Int × Int × Int)) (hR : gtR O h w c lo hi ot on = (0, Ra, RL, Rw)) (ho : ¬ (1 ≤ op ∧ op ≤ (on : Int))) (ad : Option Addr) (n cap' : Nat) :
    Calls Try.prog 15 #[.agg #[Jv h, Jv w, Jv c, Jv lo, Jv hi, .slice oa on oc, Jv ot], Jv op, .slice ad n cap'] W fun e w' => e = .returned (.tuple #[.slice none 0 0, Jv 3]) ∧ Below W.heap.size W w' := by
  have hS : Hid (∀ W, MRow W oa on oc O → _) := fun W hW => shapes_any h w c lo hi ot oa on oc O W hW
  rw [hR] at hS
  simp only at hS
  have hM2 : Hid (MRow W oa on oc O) := hM
  have hocm := hM.1
  have hocx := hM.2.1
  unfold maxLen at hocx
  clear hR hM
  have s0 := (St.start W).new (c := #[Jv h, Jv w, Jv c, Jv lo, Jv hi, .slice oa on oc, Jv ot]) (t := 26)
  by_cases o1 : op < 1
  all_goals
    try have o2 : (on : Int) < op := by omega
    clear ho
    go_enter Try.func15, Try.ntmps15
    go_wp2_with fail
    refine Calls.mono (hS.out _ (hM2.out.below s0.below)) ?_
    rintro e w1 ⟨v, rfl, hSh, hb⟩
    obtain ⟨va, vc, rfl⟩ := hSh.slice
    have s1 := (s0.call hb).new (c := #[Jv 0, Jv Ra, Jv 0]) (t := 83)
    obtain ⟨c1, f1, z1, -⟩ := (s0.call hb).rules
    clear hb hSh hS hM2 s0
    go_upto_region 2 with fail
    obtain ⟨w2, hw2⟩ : ∃ w2, w1.alloc (.cells #[Jv 0, Jv Ra, Jv 0] 83) = w2 := ⟨_, rfl⟩
    rw [hw2] at s1 ⊢
    clear hw2 c1 f1 z1
    obtain ⟨c1, f1, z1, c2, f2, z2, -⟩ := s1.rules
    have S1 : Hid (St W w2 _) := s1
    clear s1
    go_wp2
    go_ret2
    exact ⟨rfl, S1.out.below⟩
set_option maxRecDepth 100000 in
set_option maxHeartbeats 8000000 in
theorem totals_r (h w c lo hi ot : Int) (x : Addr) (on oc i : Nat) (O : Nat → Nat → Int) (W : World) (hM : MRow W (some x) on oc O) (hi0 : i < on) (wa : Option Addr) (lw cw : Nat) (ba : Option Addr) (lb cb : Nat)
    (hcell : ∀ q v, [Jv (O i 0), Jv (O i 1), Jv (O i 2), Jv (O i 3), Jv (O i 4), Jv (O i 5), Jv (O i 6), Jv (O i 7), Jv (O i 8), Jv (O i 9), Jv (O i 10), Jv (O i 11), .slice wa lw cw, .slice ba lb cb, Jv (O i 14), Jv (O i 15), Jv (O i 16), Jv (O i 17), Jv (O i 18), Jv (O i 19), Jv (O i 20), Jv (O i 21)][q]? = some v → W.cell? ((x.add (i * 22)).add q) = some v) (Rw : Int) (RL : List (Int × Int × Int)) (hR : gtR O h w c lo hi ot on = (0, 0, RL, Rw)) (hj0 : 0 ≤ O i 1) (hj1 : O i 1 ≤ (i : Int))
    (x0 y0 z0 H V C : Int) (hA : RL.getD (O i 1).toNat (0, 0, 0) = (x0, y0, z0)) (hB : RL.getD (i + 1) (0, 0, 0) = (H, V, C)) (rb : Bool) (hrb : rdB (O i 0) = rb) (ad : Option Addr) (n cap' : Nat) (hn9 : n ≤ 9223372036854775807) (hv0 : rb = true → vS x0 y0 z0 = true) (SS : List Int)
    (hS9 : Hid (rb = true → (n : Int) = x0 * y0 * z0 → ∀ (w' : World) (r : Nat), w'.heap[r]? = some (.cells #[Jv (O i 0), Jv (O i 1), Jv (O i 2), Jv (O i 3), Jv (O i 4), Jv (O i 5), Jv (O i 6), Jv (O i 7), Jv (O i 8), Jv (O i 9), Jv (O i 10), Jv (O i 11), .slice wa lw cw, .slice ba lb cb, Jv (O i 14), Jv (O i 15), Jv (O i 16), Jv (O i 17), Jv (O i 18), Jv (O i 19), Jv (O i 20), Jv (O i 21), Jv x0, Jv y0, Jv z0, Jv H, Jv V, Jv C] 90 (0, 0)) → Below W.heap.size W w' → Calls Try.prog 37 #[.pointer (some ⟨r, 0, none⟩), .slice ad n cap'] w' fun e w'' => (∃ v, e = .returned v ∧ Own .i64 2 w'' w'.heap.size v SS) ∧ Below w'.heap.size w' w'')) :
    Calls Try.prog 15 #[.agg #[Jv h, Jv w, Jv c, Jv lo, Jv hi, .slice (some x) on oc, Jv ot], Jv ((i : Int) + 1), .slice ad n cap'] W fun e w' => (if rb = true then (if (n : Int) = x0 * y0 * z0 then ∃ v, e = .returned (.tuple #[v, Jv 0]) ∧ Own .i64 2 w' W.heap.size v SS else e = .returned (.tuple #[.slice none 0 0, Jv 70])) else e = .returned (.tuple #[.slice none 0 0, Jv 81])) ∧ Below W.heap.size W w' := by
  have HP0 : Hid (rb = true → ∀ W, Calls Try.prog 36 #[.agg #[Jv x0, Jv y0, Jv z0]] W fun e w' => e = .returned (Jv (x0 * y0 * z0)) ∧ Below W.heap.size W w') := fun q W => places_plain x0 y0 z0 W (hv0 q)
  have HP9 : Hid (rb = true → 1 ≤ x0 * y0 * z0 ∧ x0 * y0 * z0 ≤ 16384) := fun q => (vS_bd (hv0 q)).2
  obtain ⟨N, hN⟩ : ∃ N, x0 * y0 * z0 = N := ⟨_, rfl⟩
  rw [hN] at HP0 HP9 hS9 ⊢
  clear hv0 hN
  have hS : Hid (∀ W, MRow W (some x) on oc O → _) := fun W hW => shapes_any h w c lo hi ot (some x) on oc O W hW
  rw [hR] at hS
  simp only at hS
  obtain ⟨-, hRl, ho64, -, -, -⟩ := gtR_ok hR
  have hM2 : Hid (MRow W (some x) on oc O) := hM
  have hocm := hM.1
  have hocx := hM.2.1
  unfold maxLen at hocx
  have Hc : Hid (∀ q v, [Jv (O i 0), Jv (O i 1), Jv (O i 2), Jv (O i 3), Jv (O i 4), Jv (O i 5), Jv (O i 6), Jv (O i 7), Jv (O i 8), Jv (O i 9), Jv (O i 10), Jv (O i 11), .slice wa lw cw, .slice ba lb cb, Jv (O i 14), Jv (O i 15), Jv (O i 16), Jv (O i 17), Jv (O i 18), Jv (O i 19), Jv (O i 20), Jv (O i 21)][q]? = some v → W.cell? ((x.add (i * 22)).add q) = some v) := hcell
  clear hR hM hcell
  have s0 := (St.start W).new (c := #[Jv h, Jv w, Jv c, Jv lo, Jv hi, .slice (some x) on oc, Jv ot]) (t := 26)
  go_enter Try.func15, Try.ntmps15
  go_wp2_with fail
  refine Calls.mono (hS.out _ (hM2.out.below s0.below)) ?_
  rintro e w1 ⟨v, rfl, hSh, hb⟩
  have s1 := (s0.call hb).new (c := #[Jv 0, Jv 0, Jv 0]) (t := 83)
  obtain ⟨g, cap, cur, rfl, hgb, hgc, hCu⟩ : ∃ g cap cur, v = .slice (some ⟨g, 0, none⟩) (on + 1) cap ∧ W.heap.size ≤ g ∧ w1.heap[g]? = some (.cells cur 23 (0, 0)) ∧ Cu cur cap RL := by
    rcases hSh with ⟨-, q⟩ | ⟨g, cap, cur, q1, q2, q3, q4, -⟩
    · rw [q] at hRl; simp at hRl
    · exact ⟨g, cap, cur, by rw [q1, hRl], by simp at q2; omega, q3, q4⟩
  have hcap := hCu.2.1
  obtain ⟨b1, b2, b3⟩ := hCu.at (show i + 1 < RL.length by omega)
  obtain ⟨a1, a2, a3⟩ := hCu.at (show (O i 1).toNat < RL.length by omega)
  rw [hB] at b1 b2 b3
  rw [hA] at a1 a2 a3
  simp only at a1 a2 a3 b1 b2 b3
  have hgz := lt_of_heap hgc
  have hgc2 : Hid ((w1.alloc (.cells #[Jv 0, Jv 0, Jv 0] 83)).heap[g]? = some (.cells cur 23 (0, 0))) := (heap_alloc_old w1 _ hgz).trans hgc
  obtain ⟨c1, f1, z1, -⟩ := (s0.call hb).rules
  clear hb hSh hCu hgc hS hM2
  go_wp2
  obtain ⟨w2, hw2⟩ : ∃ w2, w1.alloc (.cells #[Jv 0, Jv 0, Jv 0] 83) = w2 := ⟨_, rfl⟩
  rw [hw2] at s1 hgc2 ⊢
  have hw2z : w2.heap.size = w1.heap.size + 1 := by rw [← hw2]; simp
  have S1 : Hid (St W w2 _) := s1
  have hG := s1.h2
  have HC2 : Hid (∀ q v, [Jv (O i 0), Jv (O i 1), Jv (O i 2), Jv (O i 3), Jv (O i 4), Jv (O i 5), Jv (O i 6), Jv (O i 7), Jv (O i 8), Jv (O i 9), Jv (O i 10), Jv (O i 11), .slice wa lw cw, .slice ba lb cb, Jv (O i 14), Jv (O i 15), Jv (O i 16), Jv (O i 17), Jv (O i 18), Jv (O i 19), Jv (O i 20), Jv (O i 21)][q]? = some v → w2.cell? ((x.add (i * 22)).add q) = some v) := fun q v hq => (s1.below.cell (World.block_lt_of_cell? W _ (Hc.out q v hq))).trans (Hc.out q v hq)
  clear hw2 s0 s1 c1 f1
  refine regionC (fun w' => Below w2.heap.size w2 w') (by kernel_rfl) ?_
  obtain ⟨wd, hwd⟩ : ∃ wd, w2.drew = wd := ⟨_, rfl⟩
  have hdB : Below w2.heap.size w2 wd := by rw [← hwd]; exact (Below.refl _ _).drew
  have S2 : Hid (St W wd _) := S1.out.call hdB
  rw [hwd]
  have hwz : Hid (wd.heap.size = w1.heap.size + 1) := by unfold Hid; rw [← hwd]; exact hw2z
  clear hw2z
  have HD : Hid (Below w2.heap.size w2 wd) := hdB
  clear hwd hdB
  refine takeC 0 (v := .pointer (some ⟨W.heap.size, 5, none⟩)) rfl rfl (by kernel_rfl) (by kernel_rfl) (by kernel_rfl) (fun _ _ _ h => h) (fun _ => rfl) rfl (fun w' hw' => by go_simp) ?_
  refine takeC 1 (v := .slice (some x) on oc) rfl rfl (by kernel_rfl) (by kernel_rfl) (by kernel_rfl) (fun _ _ _ h => h) (fun _ => rfl) rfl (fun w' hw' => by have hc := (cells_at ((hw'.block _ (lt_of_heap hG)).trans hG)).1 5; go_simp) ?_
  refine takeC 2 (v := Jv ((i : Int) + 1)) rfl rfl (by kernel_rfl) (by kernel_rfl) (by kernel_rfl) (fun _ _ _ h => h) (fun _ => rfl) rfl (fun w' hw' => by go_simp) ?_
  refine takeC 3 (v := Jv (i : Int)) rfl rfl (by kernel_rfl) (by kernel_rfl) (by kernel_rfl) (fun _ _ _ h => h) (fun _ => rfl) rfl (fun w' hw' => by go_simp; rw [IntKind.wrap_i64]; omega) ?_
  refine takeC 4 (v := .pointer (some (x.add (i * 22)))) rfl rfl (by kernel_rfl) (by kernel_rfl) (by kernel_rfl) (fun _ _ _ h => h) (fun _ => rfl) rfl (fun w' hw' => by go_simp) ?_
  refine takeC 5 (v := .agg #[Jv (O i 0), Jv (O i 1), Jv (O i 2), Jv (O i 3), Jv (O i 4), Jv (O i 5), Jv (O i 6), Jv (O i 7), Jv (O i 8), Jv (O i 9), Jv (O i 10), Jv (O i 11), .slice wa lw cw, .slice ba lb cb, Jv (O i 14), Jv (O i 15), Jv (O i 16), Jv (O i 17), Jv (O i 18), Jv (O i 19), Jv (O i 20), Jv (O i 21)]) rfl rfl (by kernel_rfl) (by kernel_rfl) (by kernel_rfl) (fun _ _ _ h => h) (fun _ => rfl) rfl (fun w' hw' => run_la 47 (.tmp 34) rfl (x.add (i * 22)) (by kernel_rfl) [Jv (O i 0), Jv (O i 1), Jv (O i 2), Jv (O i 3), Jv (O i 4), Jv (O i 5), Jv (O i 6), Jv (O i 7), Jv (O i 8), Jv (O i 9), Jv (O i 10), Jv (O i 11), .slice wa lw cw, .slice ba lb cb, Jv (O i 14), Jv (O i 15), Jv (O i 16), Jv (O i 17), Jv (O i 18), Jv (O i 19), Jv (O i 20), Jv (O i 21)] _ (fun q v hq => (hw'.cell (World.block_lt_of_cell? _ _ (HC2.out q v hq))).trans (HC2.out q v hq)) Try.underlying47 rfl (by kernel_rfl)) ?_
  refine takeC 6 (v := .slice (some ⟨g, 0, none⟩) (on + 1) cap) rfl rfl (by kernel_rfl) (by kernel_rfl) (by kernel_rfl) (fun _ _ _ h => h) (fun _ => rfl) rfl (fun w' hw' => by go_simp) ?_
  refine takeC 7 (v := Jv ((i : Int) + 1)) rfl rfl (by kernel_rfl) (by kernel_rfl) (by kernel_rfl) (fun _ _ _ h => h) (fun _ => rfl) rfl (fun w' hw' => by go_simp) ?_
  refine takeC 8 (v := .pointer (some ⟨g, (i + 1) * 3, none⟩)) rfl rfl (by kernel_rfl) (by kernel_rfl) (by kernel_rfl) (fun _ _ _ h => h) (fun _ => rfl) rfl (fun w' hw' => by go_simp; intro q; omega) ?_
  refine takeC 9 (v := .agg #[Jv H, Jv V, Jv C]) rfl rfl (by kernel_rfl) (by kernel_rfl) (by kernel_rfl) (fun _ _ _ h => h) (fun _ => rfl) rfl (fun w' hw' => run_la 23 (.tmp 38) rfl ⟨g, (i + 1) * 3, none⟩ (by kernel_rfl) [Jv H, Jv V, Jv C] _ (three_at ((hw'.block _ (lt_of_heap hgc2.out)).trans hgc2.out) b1 b2 b3) Try.underlying23 rfl (by kernel_rfl)) ?_
  refine takeC 10 (v := .agg #[Jv (O i 0), Jv (O i 1), Jv (O i 2), Jv (O i 3), Jv (O i 4), Jv (O i 5), Jv (O i 6), Jv (O i 7), Jv (O i 8), Jv (O i 9), Jv (O i 10), Jv (O i 11), .slice wa lw cw, .slice ba lb cb, Jv (O i 14), Jv (O i 15), Jv (O i 16), Jv (O i 17), Jv (O i 18), Jv (O i 19), Jv (O i 20), Jv (O i 21), Jv 0, Jv 0, Jv 0, Jv H, Jv V, Jv C]) rfl rfl (by kernel_rfl) (by kernel_rfl) (by kernel_rfl) (fun _ _ _ h => h) (fun _ => rfl) rfl (fun w' hw' => by kernel_rfl) ?_
  refine stepC 11 HD.out (by kernel_rfl) rfl (fun K hK => step_wp rfl ?_)
  go_simp
  refine hK _ _ ?_
  clear hK K
  have HA : Hid (Below w2.heap.size w2 (wd.alloc (.cells #[Jv 0, Jv 0, Jv 0, Jv 0, Jv 0, Jv 0, Jv 0, Jv 0, Jv 0, Jv 0, Jv 0, Jv 0, .slice none 0 0, .slice none 0 0, Jv 0, Jv 0, Jv 0, Jv 0, Jv 0, Jv 0, Jv 0, Jv 0, Jv 0, Jv 0, Jv 0, Jv 0, Jv 0, Jv 0] 90))) := HD.out.alloc HD.out.size _
  refine stepC 12 HA.out (by kernel_rfl) rfl (fun K hK => step_wp rfl (wp_store_row 90 (.tmp 10) (.tmp 40) rfl wd.heap.size #[Jv (O i 0), Jv (O i 1), Jv (O i 2), Jv (O i 3), Jv (O i 4), Jv (O i 5), Jv (O i 6), Jv (O i 7), Jv (O i 8), Jv (O i 9), Jv (O i 10), Jv (O i 11), .slice wa lw cw, .slice ba lb cb, Jv (O i 14), Jv (O i 15), Jv (O i 16), Jv (O i 17), Jv (O i 18), Jv (O i 19), Jv (O i 20), Jv (O i 21), Jv 0, Jv 0, Jv 0, Jv H, Jv V, Jv C] (by kernel_rfl) (by kernel_rfl) 90 #[Jv 0, Jv 0, Jv 0, Jv 0, Jv 0, Jv 0, Jv 0, Jv 0, Jv 0, Jv 0, Jv 0, Jv 0, .slice none 0 0, .slice none 0 0, Jv 0, Jv 0, Jv 0, Jv 0, Jv 0, Jv 0, Jv 0, Jv 0, Jv 0, Jv 0, Jv 0, Jv 0, Jv 0, Jv 0] (heap_alloc_new wd _) (by kernel_rfl) rfl (by simp [Value.oneCell']) (hK _ _ ?_)))
  rw [World.setRow_alloc_new]
  refine doneC (HD.out.alloc HD.out.size _) (by kernel_rfl) ?_ _
  have s3 := S2.out.new (c := #[Jv (O i 0), Jv (O i 1), Jv (O i 2), Jv (O i 3), Jv (O i 4), Jv (O i 5), Jv (O i 6), Jv (O i 7), Jv (O i 8), Jv (O i 9), Jv (O i 10), Jv (O i 11), .slice wa lw cw, .slice ba lb cb, Jv (O i 14), Jv (O i 15), Jv (O i 16), Jv (O i 17), Jv (O i 18), Jv (O i 19), Jv (O i 20), Jv (O i 21), Jv 0, Jv 0, Jv 0, Jv H, Jv V, Jv C]) (t := 90)
  have hgc3 : Hid ((wd.alloc (.cells #[Jv (O i 0), Jv (O i 1), Jv (O i 2), Jv (O i 3), Jv (O i 4), Jv (O i 5), Jv (O i 6), Jv (O i 7), Jv (O i 8), Jv (O i 9), Jv (O i 10), Jv (O i 11), .slice wa lw cw, .slice ba lb cb, Jv (O i 14), Jv (O i 15), Jv (O i 16), Jv (O i 17), Jv (O i 18), Jv (O i 19), Jv (O i 20), Jv (O i 21), Jv 0, Jv 0, Jv 0, Jv H, Jv V, Jv C] 90)).heap[g]? = some (.cells cur 23 (0, 0))) := ((HD.out.alloc HD.out.size _).block g (lt_of_heap hgc2.out)).trans hgc2.out
  obtain ⟨w4, hw4⟩ : ∃ w4, wd.alloc (.cells #[Jv (O i 0), Jv (O i 1), Jv (O i 2), Jv (O i 3), Jv (O i 4), Jv (O i 5), Jv (O i 6), Jv (O i 7), Jv (O i 8), Jv (O i 9), Jv (O i 10), Jv (O i 11), .slice wa lw cw, .slice ba lb cb, Jv (O i 14), Jv (O i 15), Jv (O i 16), Jv (O i 17), Jv (O i 18), Jv (O i 19), Jv (O i 20), Jv (O i 21), Jv 0, Jv 0, Jv 0, Jv H, Jv V, Jv C] 90) = w4 := ⟨_, rfl⟩
  rw [hw4] at s3 hgc3 ⊢
  have S3 : Hid (St W w4 _) := s3
  obtain ⟨c1, f1, z1, -⟩ := s3.rules
  clear hw4 S1 S2 HD HA hgc2 HC2 Hc s3 hG
  go_wp2_with fail
  refine (red_any _ _).mono ?_
  rintro e w' ⟨rfl, hw'⟩
  have hw'' := hw'.symm
  subst hw''
  rw [hrb]
  have hz : w1.heap.size < wd.heap.size := by have := hwz.out; omega
  have z0' : Hid (W.heap.size ≤ wd.heap.size) := (S3.out.2 _ List.mem_cons_self).2
  cases rb with
  | false =>
    clear c1 f1
    go_wp2
    exact bodyPost_ret (v := .tuple #[.slice none 0 0, Jv 81]) (by simp [results, Try.results15, go_sem]) rfl ⟨by simp, S3.out.below⟩
  | true =>
    have a1' : w4.cell? ⟨g, (O i 1).toNat * 3, none⟩ = some (Jv x0) := by rw [(cells_at hgc3.out).1]; exact a1
    have a2' : w4.cell? ⟨g, (O i 1).toNat * 3 + 1, none⟩ = some (Jv y0) := by rw [(cells_at hgc3.out).1]; exact a2
    have a3' : w4.cell? ⟨g, (O i 1).toNat * 3 + 2, none⟩ = some (Jv z0) := by rw [(cells_at hgc3.out).1]; exact a3
    clear a1 a2 a3 b1 b2 b3
    go_upto_region 10 with fail
    have hR1 : (((w4.setCell ⟨wd.heap.size, 22, none⟩ (Jv x0)).setCell ⟨wd.heap.size, 23, none⟩ (Jv y0)).setCell ⟨wd.heap.size, 24, none⟩ (Jv z0)).heap[wd.heap.size]? = some (.cells #[Jv (O i 0), Jv (O i 1), Jv (O i 2), Jv (O i 3), Jv (O i 4), Jv (O i 5), Jv (O i 6), Jv (O i 7), Jv (O i 8), Jv (O i 9), Jv (O i 10), Jv (O i 11), .slice wa lw cw, .slice ba lb cb, Jv (O i 14), Jv (O i 15), Jv (O i 16), Jv (O i 17), Jv (O i 18), Jv (O i 19), Jv (O i 20), Jv (O i 21), Jv x0, Jv y0, Jv z0, Jv H, Jv V, Jv C] 90 (0, 0)) := heap_setCell_at (heap_setCell_at (heap_setCell_at S3.out.h1))
    have hB1 : Hid (Below W.heap.size W (((w4.setCell ⟨wd.heap.size, 22, none⟩ (Jv x0)).setCell ⟨wd.heap.size, 23, none⟩ (Jv y0)).setCell ⟨wd.heap.size, 24, none⟩ (Jv z0))) := ((S3.out.below.setCell (p := ⟨wd.heap.size, 22, none⟩) (by show W.heap.size ≤ wd.heap.size; have := z0'.out; omega) _).setCell (p := ⟨wd.heap.size, 23, none⟩) (by show W.heap.size ≤ wd.heap.size; have := z0'.out; omega) _).setCell (p := ⟨wd.heap.size, 24, none⟩) (by show W.heap.size ≤ wd.heap.size; have := z0'.out; omega) _
    obtain ⟨w5, hw5⟩ : ∃ w5, ((w4.setCell ⟨wd.heap.size, 22, none⟩ (Jv x0)).setCell ⟨wd.heap.size, 23, none⟩ (Jv y0)).setCell ⟨wd.heap.size, 24, none⟩ (Jv z0) = w5 := ⟨_, rfl⟩
    rw [hw5] at hR1 hB1 ⊢
    obtain ⟨r, hr⟩ : ∃ r, wd.heap.size = r := ⟨_, rfl⟩
    rw [hr] at hR1 ⊢
    have HR1 : Hid (w5.heap[r]? = some (.cells #[Jv (O i 0), Jv (O i 1), Jv (O i 2), Jv (O i 3), Jv (O i 4), Jv (O i 5), Jv (O i 6), Jv (O i 7), Jv (O i 8), Jv (O i 9), Jv (O i 10), Jv (O i 11), .slice wa lw cw, .slice ba lb cb, Jv (O i 14), Jv (O i 15), Jv (O i 16), Jv (O i 17), Jv (O i 18), Jv (O i 19), Jv (O i 20), Jv (O i 21), Jv x0, Jv y0, Jv z0, Jv H, Jv V, Jv C] 90 (0, 0))) := hR1
    have HP : Hid (∀ W, Calls Try.prog 36 #[.agg #[Jv x0, Jv y0, Jv z0]] W fun e w' => e = .returned (Jv N) ∧ Below W.heap.size W w') := HP0.out (by simp)
    have p9 := HP9.out (by simp)
    clear hw5 hr c1 f1 a1' a2' a3' S3 hgc3 hwz hz hR1 HP0 HP9
    obtain ⟨c1, f1, z1'⟩ := cells_at HR1.out
    go_wp2_with fail
    refine (HP.out _).mono ?_
    rintro e w6 ⟨rfl, hb6⟩
    have HB6 : Hid (Below W.heap.size W w6) := btr hB1.out hb6
    have HR6 : Hid (w6.heap[r]? = some (.cells #[Jv (O i 0), Jv (O i 1), Jv (O i 2), Jv (O i 3), Jv (O i 4), Jv (O i 5), Jv (O i 6), Jv (O i 7), Jv (O i 8), Jv (O i 9), Jv (O i 10), Jv (O i 11), .slice wa lw cw, .slice ba lb cb, Jv (O i 14), Jv (O i 15), Jv (O i 16), Jv (O i 17), Jv (O i 18), Jv (O i 19), Jv (O i 20), Jv (O i 21), Jv x0, Jv y0, Jv z0, Jv H, Jv V, Jv C] 90 (0, 0))) := (hb6.block r (lt_of_heap HR1.out)).trans HR1.out
    clear hb6 c1 f1 z1' HR1 hB1 HP
    by_cases hnN : (n : Int) = N
    · have hS8 : Hid _ := hS9.out (by simp) hnN w6 r HR6.out HB6.out
      have hnN' : Hid ((n : Int) = N) := hnN
      have hq : ((n : Int) == N) = true := by simp [hnN]
      have hq2 : ((n : Int) != N) = false := by simp [hnN]
      clear hS9 hnN
      go_wp2_with fail
      refine Calls.mono hS8.out ?_
      rintro e w7 ⟨⟨v, rfl, hO⟩, hb7⟩
      have HO : Hid (Own .i64 2 w7 W.heap.size v SS) := hO.base HB6.out.size
      have HB7 : Hid (Below W.heap.size W w7) := btr HB6.out hb7
      clear hO hb7
      go_wp2
      exact bodyPost_ret (v := .tuple #[v, Jv 0]) (by simp [results, Try.results15, go_sem]) rfl ⟨by first | exact ⟨_, rfl, HO.out⟩ | (rw [if_pos hnN'.out]; exact ⟨_, rfl, HO.out⟩) | (rw [if_pos rfl, if_pos hnN'.out]; exact ⟨_, rfl, HO.out⟩), HB7.out⟩
    · have hnN' : Hid (¬ (n : Int) = N) := hnN
      have hq : ((n : Int) == N) = false := by simp [hnN]
      clear hS9
      go_wp2
      exact bodyPost_ret (v := .tuple #[.slice none 0 0, Jv 70]) (by simp [results, Try.results15, go_sem]) rfl ⟨rfl, HB6.out⟩
/-- The error of Totals. -/
def toE (O : Nat → Nat → Int) (h w c lo hi ot : Int) (on : Nat) (op : Int) (n x0 y0 z0 : Int) : Int := if fiE O h w c lo hi ot on op ≠ 0 then fiE O h w c lo hi ot on op else if n = x0 * y0 * z0 then 0 else 70
theorem totals_bad (h w c lo hi ot : Int) (oa : Option Addr) (on oc : Nat) (O : Nat → Nat → Int) (Z B : Nat → List Int) (W : World) (hL : LRow W oa on oc O Z B) (op E : Int) (hf : fiE O h w c lo hi ot on op = E) (hE : E ≠ 0) (ad : Option Addr) (n cap' : Nat) (hn9 : n ≤ 9223372036854775807) :
    Calls Try.prog 15 #[.agg #[Jv h, Jv w, Jv c, Jv lo, Jv hi, .slice oa on oc, Jv ot], Jv op, .slice ad n cap'] W fun e w' => e = .returned (.tuple #[.slice none 0 0, Jv E]) ∧ Below W.heap.size W w' := by
  obtain ⟨Re, Ra, RL, Rw, hR⟩ : ∃ Re Ra RL Rw, gtR O h w c lo hi ot on = (Re, Ra, RL, Rw) := ⟨_, _, _, _, rfl⟩
  by_cases q : Re = 0
  · subst q
    by_cases ho : 1 ≤ op ∧ op ≤ (on : Int)
    · obtain ⟨rfl, hl, h64, -, -, -⟩ := gtR_ok hR
      obtain ⟨i, rfl⟩ : ∃ i : Nat, op = (i : Int) + 1 := ⟨(op - 1).toNat, by omega⟩
      have hi0 : i < on := by omega
      cases hk : rdB (O i 0) with
      | true => rw [fiE_0 (by rw [hR]) hi0 hk] at hf; exact absurd hf.symm hE
      | false =>
        rw [fiE_81 (by rw [hR]) hi0 hk] at hf
        subst hf
        obtain ⟨x, rfl⟩ : ∃ x, oa = some x := by
          cases oa with
          | none => have h1 := hL.2.2.1 rfl; have h2 := hL.1; omega
          | some x => exact ⟨x, rfl⟩
        obtain ⟨wa, lw, cw, ba, lb, cb, e12, e13, hcell, hz, hb, -, -⟩ := hL.2.2.2 x rfl i hi0
        obtain ⟨j, hj, hji, -⟩ := (gtR_at hR).2 i hi0
        refine (totals_r h w c lo hi ot x on oc i O W hL.m hi0 wa lw cw ba lb cb hcell Rw RL hR (by omega) (by omega) _ _ _ _ _ _ rfl rfl false hk ad n cap' hn9 (fun q => by cases q) [] (fun q => by cases q)).mono ?_
        rintro e w' ⟨h1, h2⟩
        exact ⟨by simpa using h1, h2⟩
    · rw [fiE_3 (by rw [hR]) ho] at hf
      subst hf
      exact totals_3 h w c lo hi ot op oa on oc O W hL.m Ra Rw RL hR ho ad n cap'
  · rw [fiE_err (by rw [hR]) q] at hf
    subst hf
    exact totals_e h w c lo hi ot op oa on oc O W hL.m _ Ra Rw RL hR hE ad n cap'
/-- An op that is there: the sums, or ErrLens. -/
theorem totals_ok (h w c lo hi ot : Int) (oa : Option Addr) (on oc : Nat) (O : Nat → Nat → Int) (Z B : Nat → List Int) (W : World) (hL : LRow W oa on oc O Z B) (RL : List (Int × Int × Int)) (Rw : Int) (hR : gtR O h w c lo hi ot on = (0, 0, RL, Rw))
    (i : Nat) (x : Addr) (wa : Option Addr) (lw cw : Nat) (ba : Option Addr) (lb cb : Nat) (x0 y0 z0 H V C : Int) (hF : Fnd W oa on O Z B RL i x wa lw cw ba lb cb x0 y0 z0 H V C) (ad : Option Addr) (n cap' : Nat) (xs : List Int) (hX : IRow .i8 W ad n cap' xs) :
    Calls Try.prog 15 #[.agg #[Jv h, Jv w, Jv c, Jv lo, Jv hi, .slice oa on oc, Jv ot], Jv ((i : Int) + 1), .slice ad n cap'] W fun e w' => (if (n : Int) = x0 * y0 * z0 then ∃ v, e = .returned (.tuple #[v, Jv 0]) ∧ Own .i64 2 w' W.heap.size v (suL (O i 0) (O i 4) (O i 5) (O i 6) (O i 7) (O i 8) (O i 9) (O i 10) (O i 11) x0 y0 z0 C (O i 19) (Z i) (B i) xs (H * V * C).toNat) else e = .returned (.tuple #[.slice none 0 0, Jv 70])) ∧ Below W.heap.size W w' := by
  obtain ⟨h1, rfl, h3, h4, h5, h6, h7, h8, h9, h10, h11, h12⟩ := hF
  obtain ⟨ja, jb, e1, hja, e3, hjb, hO⟩ := opd_of hR h1
  obtain ⟨hOpd, -⟩ := hO x0 y0 z0 H V C (by rw [← h8, e1, Int.toNat_natCast]) h9
  rw [h3, h4, Int.toNat_natCast, Int.toNat_natCast] at hOpd
  have hk := of_decide_eq_true h12
  obtain ⟨wa', lw', cw', ba', lb', cb', e12, e13, -, -, -, hlw, hlb⟩ := hL.2.2.2 x rfl i h1
  have elw : lw' = lw := by omega
  have elb : lb' = lb := by omega
  subst elw elb
  have hcm := hX.2.2.1
  have hcc := hX.2.1
  unfold maxLen at hcm
  refine (totals_r h w c lo hi ot x on oc i O W hL.m h1 wa lw' cw ba lb' cb h5 Rw RL hR h11.1 h11.2 _ _ _ _ _ _ h8 h9 true h12 ad n cap' (by omega) (fun _ => hOpd.hA) (suL (O i 0) (O i 4) (O i 5) (O i 6) (O i 7) (O i 8) (O i 9) (O i 10) (O i 11) x0 y0 z0 C (O i 19) (Z i) (B i) xs (H * V * C).toNat) (fun _ hn w' r hr hb => sums_any (O i 0) (O i 1) (O i 2) (O i 3) (O i 4) (O i 5) (O i 6) (O i 7) (O i 8) (O i 9) (O i 10) (O i 11) wa lw' cw ba lb' cb (O i 14) (O i 15) (O i 16) (O i 17) (O i 18) (O i 19) (O i 20) (O i 21) x0 y0 z0 H V C r w' hr hOpd hk.2 (Z i) (B i) (h6.below hb) (h7.below hb) hlw hlb ad n cap' xs (hX.below hb) hn)).mono ?_
  rintro e w' ⟨q1, q2⟩
  exact ⟨by simpa using q1, q2⟩
end Go.Proofs.Ytcphealigifdiaa
