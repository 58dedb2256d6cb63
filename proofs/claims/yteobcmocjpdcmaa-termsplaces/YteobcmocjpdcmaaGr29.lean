/- What Padded of package window returns, for every argument. The places of a sum's terms, in plain numbers: where they lie, that none comes twice, how many are padding. What is counted of the places of a sum's terms; the walk of TermsPlaces where there is no sum. All that the walk of TermsPlaces needs of the places, by kind. -/
import Derived.Test.YteobcmocjpdcmaaGr14
import Derived.Test.YteobcmocjpdcmaaGr15
import Derived.Test.YteobcmocjpdcmaaGr25
import Derived.Test.YteobcmocjpdcmaaGr26
/- What Padded of package window returns, for every argument. -/
namespace Go.Proofs.Yteobcmocjpdcmaa.Nx
open Go.ChangeShapes Go.WideShapes Go.ChangeAt Go.RowKit Go.Shelf
attribute [local go_sem] Oper.semAt_some
/-- How many are padding. -/
def padN (l : List (Int × Int)) : Nat := (l.filter fun p => decide (p.2 = -1)).length
theorem padN_hit (l : List (Int × Int)) {x : Int × Int} (h : x.2 = -1) : padN (l ++ [x]) = padN l + 1 := by simp [padN, h]
theorem padN_miss (l : List (Int × Int)) {x : Int × Int} (h : ¬ x.2 = -1) : padN (l ++ [x]) = padN l := by simp [padN, h]
theorem padN_le (l : List (Int × Int)) : padN l ≤ l.length := List.length_filter_le _ _
set_option maxRecDepth 100000 in
set_option maxHeartbeats 4000000 in
theorem padded_any (h w c kh kw sh sw tp lf bt rt n : Int) (W : World) :
    Calls Try.prog 19 #[.agg #[.int .i64 h, .int .i64 w, .int .i64 c], .agg #[.int .i64 kh, .int .i64 kw, .int .i64 sh, .int .i64 sw, .int .i64 tp, .int .i64 lf, .int .i64 bt, .int .i64 rt], .int .i64 n] W fun e w' => e = .returned (.tuple #[.int .i64 (padN (tapsOf h w c kh kw sh sw tp lf bt rt n)), .int .i64 (coR h w c kh kw sh sw tp lf bt rt n).2.2]) ∧ Below W.heap.size W w' := by
  rcases coR_cases h w c kh kw sh sw tp lf bt rt n with ⟨e, he, h2⟩ | ⟨r, q, he, hf, hn, hc⟩
  · rw [tapsOf_no he (by omega), he]
    have HC : Hid (coR h w c kh kw sh sw tp lf bt rt n = (0, 0, e)) := he
    have z1 : (e != 0) = true := by simp; omega
    clear he
    refine (callsIn_wide (n := 3)).1 ?_
    refine callsIn_of_wp_marks Try.func19 rfl trivial ?_ rfl
    simp only [Try.ntmps19, List.size_toArray, List.length_cons, List.length_nil, Nat.reduceAdd, Nat.reduceSub, Array.replicate_succ, Array.replicate_zero, List.push_toArray, List.append_toArray, List.nil_append, List.cons_append]
    refine wpIn_wide.2 ?_
    go_wp2_with fail
    refine (corner_any _ _ _ _ _ _ _ _ _ _ _ _ _).mono ?_
    rintro e w1 ⟨rfl, hb'⟩
    have s1 := (St.start W).new.new.call hb'
    clear hb'
    try simp only [World.size_setCell] at s1
    try simp only [World.size_alloc] at s1
    obtain ⟨c1, f1, zw1_1, c2, f2, zw1_2, -⟩ := s1.rules
    rw [HC.out]
    go_wp2
    exact ⟨.tuple #[.int .i64 0, .int .i64 e], by simp [results, Try.f19, go_sem], rfl, s1.below⟩
  · obtain ⟨ys, hys⟩ : ∃ ys, tapsOf h w c kh kw sh sw tp lf bt rt n = ys := ⟨_, rfl⟩
    have HY : Hid (tapsOf h w c kh kw sh sw tp lf bt rt n = ys) := hys
    have hyl : ys.length ≤ 1024 := by have := tapsOf_len h w c kh kw sh sw tp lf bt rt n; rw [hys] at this; exact this
    rw [hys, hc]
    obtain ⟨t, ht⟩ : ∃ t, n / q * sh - tp = t := ⟨_, rfl⟩
    obtain ⟨u, hu⟩ : ∃ u, n % q * sw - lf = u := ⟨_, rfl⟩
    have HC : Hid (coR h w c kh kw sh sw tp lf bt rt n = (t, u, 0)) := by rw [← ht, ← hu]; exact hc
    clear hys he hf hn hc ht hu
    have hfn : ∀ f, Fence.wide.fn f := fun _ => trivial
    have hdp : Fence.wide.depth = none := rfl
    refine (callsIn_wide (n := 3)).1 ?_
    refine callsIn_of_wp_marks Try.func19 rfl trivial ?_ rfl
    simp only [Try.ntmps19, List.size_toArray, List.length_cons, List.length_nil, Nat.reduceAdd, Nat.reduceSub, Array.replicate_succ, Array.replicate_zero, List.push_toArray, List.append_toArray, List.nil_append, List.cons_append]
    refine wpIn_wide.2 ?_
    go_wp2_with fail
    refine (corner_any _ _ _ _ _ _ _ _ _ _ _ _ _).mono ?_
    rintro e w1 ⟨rfl, hb'⟩
    have s1 := (St.start W).new.new.call hb'
    clear hb'
    try simp only [World.size_setCell] at s1
    try simp only [World.size_alloc] at s1
    obtain ⟨c1, f1, zw1_1, c2, f2, zw1_2, -⟩ := s1.rules
    rw [HC.out]
    go_wp2_with fail
    refine (taps_any _ _ _ _ _ _ _ _ _ _ _ _ _).mono ?_
    rintro e w5 ⟨⟨g, lb, rfl, hit⟩, hb5⟩
    rw [HY.out] at hit
    have s5 := (s1.new (c := #[.int .i64 0]) (t := 3)).call (by simpa using hb5)
    simp only [World.size_alloc] at s5 hit hb5
    obtain ⟨a1, -⟩ := s5.heaps
    have hB5 := s5.below
    have hz1 := s1.size
    clear c1 f1 c2 f2
    go_wp2
    obtain ⟨lo, hlo⟩ : ∃ lo, w1.heap.size + 1 = lo := ⟨_, rfl⟩
    obtain ⟨hi, hhi⟩ : ∃ hi, w5.heap.size = hi := ⟨_, rfl⟩
    have hlh : lo ≤ hi := by rw [← hlo, ← hhi]; simpa using hb5.size
    rw [hlo, hhi] at hit
    obtain ⟨g', lb', hv, heg, hseq⟩ := hit
    obtain ⟨rfl, rfl⟩ : g = g' ∧ lb = lb' := by simpa using hv
    refine (wpIn_wide (n := 3)).1 ?_
    refine wpIn_rangeFunc_ownG (F := Fence.wide) rfl (by omega) (gf := g) (lb := lb) rfl trivial heg (hseq w5 _ (Mid.refl _ _ _)) (fun h k => Mid.trans h k) (fun W l o o' _ h1 h2 _ => Mid.put W l o o' h1 h2) (Below.refl _ _) (fun _ => rfl)
      (fun (pre : List (Int × Int)) W' => Boxed W' w1.heap.size 3 (.int .i64 (padN pre)) ∧ Mid lo hi w5 W' ∧ Below W.heap.size W W')
      (fun _ _ _ => False)
      (by rw [hhi]; exact OwnFrom.and (Own.from (boxed_own _ _ _) _) (OwnFrom.and ownFrom_mid (ownFrom_below (Nat.le_refl _) (by omega))))
      (fun _ _ _ _ _ hs _ _ => hs)
      ⟨a1, Mid.refl _ _ _, hB5⟩ ?a₁ ?assign ?body ?done ?stop
    case assign =>
      intro l x W' K hK
      gi_wp2
      exact hK
    case body =>
      rintro l pre x W' ⟨hv, hmid, hB⟩ hlt
      have hc := hv.cell
      have hf := hv.frozen
      have hp := padN_le pre
      by_cases hx : x.2 = -1
      · have hx' : (x.2 == -1) = true := by simp [hx]
        have HP := padN_hit pre hx
        clear hx
        gi_wp2
        exact ⟨(KeepsOthers.setCell _ _ _).from _, Mid.set _ (.inl (by omega)), by rw [HP]; exact hv.set _, hmid.trans (Mid.set _ (.inl (by omega))), hB.setCell (p := ⟨w1.heap.size, 0, none⟩) (by show W.heap.size ≤ w1.heap.size; omega) _⟩
      · have hx' : (x.2 == -1) = false := by simp [hx]
        have HP := padN_miss pre hx
        clear hx
        gi_wp2
        exact ⟨KeepsFrom.refl _ _, Mid.refl _ _ _, by rw [HP]; exact hv, hmid, hB⟩
    case done =>
      rintro D zs W' hD rfl ⟨hv, hmid, hB⟩ hK
      have hc := hv.cell
      go_wp2
      refine ⟨by simp, .inl ⟨_, _, rfl, run_takeDeferred hK, ?_⟩⟩
      exact ⟨.tuple #[.int .i64 (padN zs), .int .i64 0], by simp [results, Try.f19, go_sem], rfl, hB.trans (belowK_b (w := W) (Nat.le_refl _) W' D _ _ (by omega) hK rfl rfl)⟩
    case stop =>
      rintro D c pre W' _ _ h _
      exact h.elim
end Go.Proofs.Yteobcmocjpdcmaa.Nx

/- The places of a sum's terms, in plain numbers: where they lie, that none comes twice, how many are padding. -/
namespace Go.Proofs.Yteobcmocjpdcmaa
set_option linter.unusedVariables false
theorem mul_inj {c a b a' b' : Int} (h1 : 0 ≤ b ∧ b < c) (h2 : 0 ≤ b' ∧ b' < c) (h : a * c + b = a' * c + b') : a = a' ∧ b = b' := by
  have e : ∀ x y : Int, 0 ≤ y ∧ y < c → (x * c + y) / c = x := fun x y hy => by
    rw [Int.add_comm, Int.add_mul_ediv_right _ _ (by omega), Int.ediv_eq_zero_of_lt hy.1 hy.2, Int.zero_add]
  have q1 := e a b h1
  have q2 := e a' b' h2
  rw [h] at q1
  have : a = a' := by omega
  subst this
  exact ⟨rfl, by omega⟩
theorem tpc_cases {h w kw t u : Int} (q : Int) : tpc h w kw t u q = -1 ∨ ((0 ≤ t + q / kw ∧ t + q / kw < h) ∧ (0 ≤ u + q % kw ∧ u + q % kw < w) ∧ tpc h w kw t u q = (t + q / kw) * w + (u + q % kw)) := by
  unfold tpc
  by_cases g : (0 ≤ t + q / kw ∧ t + q / kw < h) ∧ (0 ≤ u + q % kw ∧ u + q % kw < w)
  · right; exact ⟨g.1, g.2, plc_in g⟩
  · left; exact plc_out g
theorem tpc_bd {h w kw t u : Int} (q : Int) (g : tpc h w kw t u q ≠ -1) : 0 ≤ tpc h w kw t u q ∧ tpc h w kw t u q < h * w := by
  rcases tpc_cases (h := h) (w := w) (kw := kw) (t := t) (u := u) q with e | ⟨g1, g2, e⟩
  · exact absurd e g
  · rw [e]
    have := rowbd g1.2 g1.1 g2.1 g2.2
    omega
theorem tpc_inj {h w kw t u q r : Int} (hk : 1 ≤ kw) (hq : tpc h w kw t u q ≠ -1) (he : tpc h w kw t u q = tpc h w kw t u r) : q = r := by
  rcases tpc_cases (h := h) (w := w) (kw := kw) (t := t) (u := u) q with e | ⟨g1, g2, e⟩
  · exact absurd e hq
  rcases tpc_cases (h := h) (w := w) (kw := kw) (t := t) (u := u) r with e' | ⟨g1', g2', e'⟩
  · rw [he, e'] at hq; exact absurd rfl hq
  rw [e, e'] at he
  obtain ⟨a1, a2⟩ := mul_inj (by omega) (by omega) he
  have b1 := Int.mul_ediv_add_emod q kw
  have b2 := Int.mul_ediv_add_emod r kw
  have c1 : q / kw = r / kw := by omega
  have c2 : q % kw = r % kw := by omega
  rw [← b1, ← b2, c1, c2]
/-- What is known of the numbers of an op with a window. -/
structure Wn4 (k c ch h w kw t u : Int) (nC N : Nat) : Prop where
  k1 : k ≠ 1
  kk : 2 ≤ k ∧ k ≤ 4
  hn : (nC : Int) = chB k c ch - chF k ch
  n1 : 1 ≤ nC
  hF : 0 ≤ chF k ch
  hB : chB k c ch ≤ c
  hc : 1 ≤ c ∧ c ≤ 1024
  hh : 1 ≤ h ∧ h ≤ 1024
  hw : 1 ≤ w ∧ w ≤ 1024
  hm : h * w ≤ 16384
  hkw : 1 ≤ kw
  hC : (chF k ch : Int) = if k = 2 then 0 else ch - 1
theorem div_mod_nat (i nC : Nat) (h : 1 ≤ nC) : i = i / nC * nC + i % nC := by
  have := Nat.div_add_mod i nC
  rw [Nat.mul_comm] at this
  exact this.symm
theorem Wn4.at {k c ch h w kw t u : Int} {nC N : Nat} (g : Wn4 k c ch h w kw t u nC N) (i : Nat) : plA k c ch h w kw t u (i : Int) = cov c (tpc h w kw t u ((i / nC : Nat) : Int)) (chF k ch + ((i % nC : Nat) : Int)) := by
  have := plA_at (h := h) (w := w) (kw := kw) (t := t) (u := u) (q := i / nC) (j := i % nC) g.k1 g.hn (Nat.mod_lt _ g.n1)
  rw [← div_mod_nat i nC g.n1] at this
  exact this
theorem cov_cases {C p d : Int} (hC : 1 ≤ C) (hp : p = -1 ∨ 0 ≤ p) (hd : 0 ≤ d) : (cov C p d = -1 ∧ p = -1) ∨ (0 ≤ cov C p d ∧ p ≠ -1 ∧ cov C p d = p * C + d) := by
  unfold cov
  by_cases q : p = -1
  · left; exact ⟨if_pos q, q⟩
  · right
    rw [if_neg q]
    have := Int.mul_nonneg (show 0 ≤ p by omega) (show 0 ≤ C by omega)
    exact ⟨by omega, q, rfl⟩
theorem tpc_sgn {h w kw t u : Int} (q : Int) : tpc h w kw t u q = -1 ∨ 0 ≤ tpc h w kw t u q := by
  by_cases g : tpc h w kw t u q = -1
  · exact .inl g
  · exact .inr (tpc_bd q g).1
theorem Wn4.dd {k c ch h w kw t u : Int} {nC N : Nat} (g : Wn4 k c ch h w kw t u nC N) (i : Nat) : 0 ≤ chF k ch + ((i % nC : Nat) : Int) ∧ chF k ch + ((i % nC : Nat) : Int) < c := by
  have h1 := Nat.mod_lt i g.n1
  have h2 := g.hn
  have h3 := g.hF
  have h4 := g.hB
  omega
/-- Where a term lies. -/
theorem Wn4.bd {k c ch h w kw t u : Int} {nC N : Nat} (g : Wn4 k c ch h w kw t u nC N) (i : Nat) : plA k c ch h w kw t u (i : Int) = -1 ∨ (0 ≤ plA k c ch h w kw t u (i : Int) ∧ plA k c ch h w kw t u (i : Int) < h * w * c) := by
  rw [g.at i]
  rcases cov_cases g.hc.1 (tpc_sgn ((i / nC : Nat) : Int)) (g.dd i).1 with ⟨e, -⟩ | ⟨e1, e2, e3⟩
  · exact .inl e
  · right
    refine ⟨e1, ?_⟩
    rw [e3]
    have b := tpc_bd _ e2
    have d := g.dd i
    have m := Int.mul_le_mul_of_nonneg_right (show tpc h w kw t u ((i / nC : Nat) : Int) + 1 ≤ h * w by omega) (show 0 ≤ c by have := g.hc; omega)
    rw [Int.add_mul, Int.one_mul] at m
    omega
/-- No place comes twice. -/
theorem Wn4.inj {k c ch h w kw t u : Int} {nC N : Nat} (g : Wn4 k c ch h w kw t u nC N) {i j : Nat} (hi : plA k c ch h w kw t u (i : Int) ≠ -1) (he : plA k c ch h w kw t u (i : Int) = plA k c ch h w kw t u (j : Int)) : i = j := by
  rw [g.at i] at hi he
  rw [g.at j] at he
  rcases cov_cases g.hc.1 (tpc_sgn ((i / nC : Nat) : Int)) (g.dd i).1 with ⟨e, -⟩ | ⟨e1, e2, e3⟩
  · exact absurd e hi
  rcases cov_cases g.hc.1 (tpc_sgn ((j / nC : Nat) : Int)) (g.dd j).1 with ⟨e', -⟩ | ⟨e1', e2', e3'⟩
  · rw [he] at hi; exact absurd e' hi
  rw [e3, e3'] at he
  obtain ⟨a1, a2⟩ := mul_inj (g.dd i) (g.dd j) he
  have q := tpc_inj g.hkw e2 a1
  have q1 : i / nC = j / nC := by exact_mod_cast q
  have q2 : i % nC = j % nC := by omega
  rw [div_mod_nat i nC g.n1, div_mod_nat j nC g.n1, q1, q2]
/-- The channel of a place. -/
theorem Wn4.chn {k c ch h w kw t u : Int} {nC N : Nat} (g : Wn4 k c ch h w kw t u nC N) (k2 : k ≠ 2) {i : Nat} (hi : plA k c ch h w kw t u (i : Int) ≠ -1) : Int.tmod (plA k c ch h w kw t u (i : Int)) c = ch - 1 := by
  have hb := g.bd i
  rw [g.at i] at hi hb ⊢
  rcases cov_cases g.hc.1 (tpc_sgn ((i / nC : Nat) : Int)) (g.dd i).1 with ⟨e, -⟩ | ⟨e1, e2, e3⟩
  · exact absurd e hi
  have hF := g.hC
  rw [if_neg k2] at hF
  have hn := g.hn
  have hB : chB k c ch = ch := if_neg k2
  have hm : i % nC = 0 := by have := Nat.mod_lt i g.n1; omega
  rw [e3, Int.tmod_eq_emod_of_nonneg (by omega), hm, hF]
  rw [Int.add_comm, Int.add_mul_emod_self_right]
  have d := g.dd i
  rw [hm, hF] at d
  rw [Int.emod_eq_of_lt (by omega) (by omega)]
  omega
/-! ### How many are padding -/
theorem count_pfl {nC : Nat} {c F : Int} (hc : 1 ≤ c ∧ c ≤ 1024) (hF : 0 ≤ F) (hB : F + (nC : Int) ≤ 1024) : ∀ l : List (Int × Int), (∀ p ∈ l, -1 ≤ p.2 ∧ p.2 ≤ 16384) → List.count (-1) (pfl nC c F l) = Nx.padN l * nC
  | [], _ => by simp [pfl, Nx.padN]
  | p :: l, hl => by
    have ih := count_pfl hc hF hB l (fun q hq => hl q (List.mem_cons_of_mem _ hq))
    have hp := hl p List.mem_cons_self
    have e : pfl nC c F (p :: l) = ((List.range nC).map fun (j : Nat) => covW c p.2 (F + j)) ++ pfl nC c F l := by simp [pfl]
    rw [e, List.count_append, ih]
    have hcv : ∀ j : Nat, j < nC → covW c p.2 (F + j) = cov c p.2 (F + j) := fun j hj => covW_eq hp (by omega) hc
    by_cases q : p.2 = -1
    · have e1 : ((List.range nC).map fun (j : Nat) => covW c p.2 (F + j)) = List.replicate nC (-1) := by
        apply List.ext_getElem
        · simp
        · intro i h1 h2
          simp only [List.getElem_map, List.getElem_range, List.getElem_replicate]
          rw [hcv i (by simpa using h1)]
          exact if_pos q
      rw [e1, List.count_replicate_self]
      have : Nx.padN (p :: l) = Nx.padN l + 1 := by simp [Nx.padN, q]
      rw [this, Nat.add_mul]
      omega
    · have e1 : List.count (-1) ((List.range nC).map fun (j : Nat) => covW c p.2 (F + j)) = 0 := by
        rw [List.count_eq_zero]
        intro hmem
        obtain ⟨j, hj, hje⟩ := List.mem_map.1 hmem
        rw [hcv j (List.mem_range.1 hj)] at hje
        rcases cov_cases hc.1 (show p.2 = -1 ∨ 0 ≤ p.2 by omega) (show 0 ≤ F + (j : Int) by omega) with ⟨-, e⟩ | ⟨e, -⟩
        · exact q e
        · omega
      rw [e1]
      have : Nx.padN (p :: l) = Nx.padN l := by simp [Nx.padN, q]
      rw [this, Nat.zero_add]
theorem Wn4.count {k c ch h w kw t u : Int} {nC N : Nat} (g : Wn4 k c ch h w kw t u nC N) : List.count (-1) (plL k c ch h w kw t u (N * nC)) = Nx.padN (tapL h w kw t u N) * nC := by
  have hB := g.hB
  have hc := g.hc
  have hn := g.hn
  rw [← pfl_tap g.k1 g.hn g.hF (by omega) g.hc g.hh g.hw g.hm N]
  refine count_pfl g.hc g.hF (by omega) _ (fun p hp => ?_)
  obtain ⟨j, -, rfl⟩ := List.mem_map.1 hp
  exact plc_bd g.hh g.hw g.hm
/-- Some tap lies in the plane. -/
theorem pad_lt {h w kh kw t u : Int} {N : Nat} (hc : Cor h w kh kw t u) (hN : kh * kw = (N : Int)) : Nx.padN (tapL h w kw t u N) < N := by
  obtain ⟨h1, w1, -, k1, k2, t1, u1⟩ := hc
  obtain ⟨y, hy⟩ : ∃ y : Nat, (y : Int) = if t < 0 then -t else 0 := ⟨(if t < 0 then -t else 0).toNat, by split <;> omega⟩
  obtain ⟨x, hx⟩ : ∃ x : Nat, (x : Int) = if u < 0 then -u else 0 := ⟨(if u < 0 then -u else 0).toNat, by split <;> omega⟩
  have hy1 : (y : Int) < kh := by rw [hy]; split <;> omega
  have hx1 : (x : Int) < kw := by rw [hx]; split <;> omega
  have hy2 : 0 ≤ t + y ∧ t + y < h := by rw [hy]; split <;> omega
  have hx2 : 0 ≤ u + x ∧ u + x < w := by rw [hx]; split <;> omega
  obtain ⟨KW, hKW⟩ : ∃ K : Nat, kw = K := ⟨kw.toNat, by omega⟩
  subst hKW
  have hs := spot_at (y := y) (q := KW) (x := x) (by omega)
  simp only [Prod.mk.injEq] at hs
  have hlt : y * KW + x < N := by
    have a := Int.mul_le_mul_of_nonneg_right (show (y : Int) + 1 ≤ kh by omega) (show 0 ≤ (KW : Int) by omega)
    rw [Int.add_mul, Int.one_mul, hN] at a
    have : ((y * KW + x : Nat) : Int) < (N : Int) := by push_cast; omega
    exact_mod_cast this
  have hlen := tapL_len h w (KW : Int) t u N
  have key : Nx.padN (tapL h w (KW : Int) t u N) < (tapL h w (KW : Int) t u N).length := by
    unfold Nx.padN
    refine List.length_filter_lt_length_iff_exists.2 ⟨tap h w KW t u (y * KW + x), List.mem_map.2 ⟨_, List.mem_range.2 hlt, rfl⟩, ?_⟩
    intro hd
    have hd' := of_decide_eq_true hd
    have he : (tap h w KW t u (y * KW + x)).2 = (t + y) * w + (u + x) := by
      unfold tap
      simp only
      rw [hs.1, hs.2, plc_in ⟨hy2, hx2⟩]
    rw [he] at hd'
    have := rowbd hy2.2 hy2.1 hx2.1 hx2.2
    omega
  rw [hlen] at key
  exact key
end Go.Proofs.Yteobcmocjpdcmaa

/- What is counted of the places of a sum's terms; the walk of TermsPlaces where there is no sum. -/
namespace Go.Proofs.Yteobcmocjpdcmaa
open Go.ChangeShapes Go.WideShapes Go.ChangeAt Go.RowKit
set_option linter.unusedVariables false
/-- How often each place came among the first y. -/
def snL (f : Nat → Int) (m y : Nat) : List Int := (List.range m).map fun (p : Nat) => ((List.count (p : Int) ((List.range y).map f) : Nat) : Int)
def pdN (f : Nat → Int) (y : Nat) : Nat := List.count (-1) ((List.range y).map f)
theorem snL_len (f : Nat → Int) (m y : Nat) : (snL f m y).length = m := by simp [snL]
theorem snL_0 (f : Nat → Int) (m : Nat) : snL f m 0 = List.replicate m 0 := by
  apply List.ext_getElem
  · simp [snL]
  · intro i h1 h2
    simp [snL]
theorem rng_succ (f : Nat → Int) (y : Nat) : (List.range (y + 1)).map f = (List.range y).map f ++ [f y] := by rw [List.range_succ, List.map_append]; rfl
theorem snL_pad {f : Nat → Int} {m y : Nat} (h : f y = -1) : snL f m (y + 1) = snL f m y := by
  unfold snL
  rw [rng_succ, h]
  refine List.map_congr_left fun p _ => ?_
  rw [List.count_append]
  have : List.count (p : Int) [-1] = 0 := by rw [List.count_eq_zero]; intro hm; have := List.mem_singleton.1 hm; omega
  rw [this, Nat.add_zero]
theorem pdN_pad {f : Nat → Int} {y : Nat} (h : f y = -1) : pdN f (y + 1) = pdN f y + 1 := by
  unfold pdN
  rw [rng_succ, h, List.count_append]
  rfl
theorem pdN_hit {f : Nat → Int} {y : Nat} (h : f y ≠ -1) : pdN f (y + 1) = pdN f y := by
  unfold pdN
  rw [rng_succ, List.count_append]
  have : List.count (-1) [f y] = 0 := by rw [List.count_eq_zero]; simp; exact fun e => h e.symm
  rw [this, Nat.add_zero]
theorem pdN_le (f : Nat → Int) (y : Nat) : pdN f y ≤ y := by
  have := List.count_le_length (a := (-1 : Int)) (l := (List.range y).map f)
  simpa [pdN] using this
/-- A place that comes for the first time. -/
theorem snL_hit {f : Nat → Int} {m y p : Nat} (h : f y = (p : Int)) (hp : p < m) (hinj : ∀ i, i < y → f i ≠ f y) : snL f m (y + 1) = (snL f m y).set p 1 ∧ (snL f m y).getD p 0 = 0 := by
  have h0 : List.count (p : Int) ((List.range y).map f) = 0 := by
    rw [List.count_eq_zero]
    intro hm
    obtain ⟨i, hi, he⟩ := List.mem_map.1 hm
    exact hinj i (List.mem_range.1 hi) (by rw [he, h])
  constructor
  · apply List.ext_getElem
    · simp [snL]
    · intro i h1 h2
      rw [List.getElem_set]
      simp only [snL, List.getElem_map, List.getElem_range]
      rw [rng_succ, List.count_append, h]
      by_cases e : p = i
      · subst e
        rw [if_pos rfl, h0]
        simp
      · rw [if_neg e]
        have : List.count (i : Int) [(p : Int)] = 0 := by rw [List.count_eq_zero]; simp; omega
        rw [this, Nat.add_zero]
  · simp [snL, List.getD, hp, h0]
/-- A block of ints. -/
def Sn (w : World) (g : Nat) (zs : List Int) : Prop := w.heap[g]? = some (.cells (zs.map (Value.int .i64)).toArray 3 (0, 0))
theorem Sn.at {w : World} {g p : Nat} {zs : List Int} (h : Sn w g zs) (hp : p < zs.length) : w.cell? ⟨g, p, none⟩ = some (.int .i64 (zs.getD p 0)) := by
  rw [(cells_at h).1]
  simp [List.getD, hp]
theorem Sn.set {w : World} {g p : Nat} {zs : List Int} (z : Int) (h : Sn w g zs) : Sn (w.setCell ⟨g, p, none⟩ (.int .i64 z)) g (zs.set p z) := by
  have := heap_setCell_at (i := p) (v := .int .i64 z) h
  unfold Sn
  rw [this]
  congr 2
  apply Array.ext'
  simp
theorem Sn.below {w w' : World} {g : Nat} {zs : List Int} (h : Sn w g zs) (k : Below w.heap.size w w') : Sn w' g zs := (k.block g (lt_of_heap h)).trans h
set_option maxHeartbeats 8000000 in
set_option maxRecDepth 100000 in
theorem termsPlaces_e (h w c lo hi : Int) (oa : Option Addr) (on oc : Nat) (ot op ch at' : Int) (W : World) (E ln F : Int) (hE : E ≠ 0)
    (hO : ∀ W', Below W.heap.size W W' → Calls Try.prog 14 #[.agg #[.int .i64 h, .int .i64 w, .int .i64 c, .int .i64 lo, .int .i64 hi, .slice oa on oc, .int .i64 ot], .int .i64 op, .int .i64 ch, .int .i64 at'] W' fun e w' => e = .returned (.tuple #[.slice none 0 0, .int .i64 0, .int .i64 E]) ∧ Below W'.heap.size W' w')
    (hLn : ∀ W', Below W.heap.size W W' → Calls Try.prog 8 #[.agg #[.int .i64 h, .int .i64 w, .int .i64 c, .int .i64 lo, .int .i64 hi, .slice oa on oc, .int .i64 ot], .int .i64 op] W' fun e w' => e = .returned (.tuple #[.int .i64 ln, .int .i64 F]) ∧ Below W'.heap.size W' w') :
    Calls Try.prog 5 #[.agg #[.int .i64 h, .int .i64 w, .int .i64 c, .int .i64 lo, .int .i64 hi, .slice oa on oc, .int .i64 ot, .int .i64 op, .int .i64 ch, .int .i64 at']] W fun e w' => e = .returned (.bool true) ∧ Below W.heap.size W w' := by
  have HO : Hid (∀ W', _) := hO
  have HL : Hid (∀ W', _) := hLn
  have hE' : (E == 0) = false := by simp [hE]
  have hE2 : (E != 0) = true := by simp [hE]
  have s0 := (St.start W).new (c := #[.int .i64 h, .int .i64 w, .int .i64 c, .int .i64 lo, .int .i64 hi, .slice oa on oc, .int .i64 ot, .int .i64 op, .int .i64 ch, .int .i64 at']) (t := 46)
  clear hO hE hLn
  go_enter Try.func5, Try.ntmps5
  go_wp2_with fail
  refine (fixed10_any _).mono ?_
  rintro e w1 ⟨rfl, hb⟩
  have s1 := s0.call hb
  obtain ⟨c1, f1, z1, -⟩ := s1.rules
  clear hb s0
  go_wp2_with fail
  refine (HO.out _ s1.below).mono ?_
  rintro e w2 ⟨rfl, hb⟩
  have s2 := s1.call hb
  clear hb s1 c1 f1 z1
  obtain ⟨c1, f1, z1, -⟩ := s2.rules
  go_wp2_with fail
  refine (HL.out _ s2.below).mono ?_
  rintro e w3 ⟨rfl, hb⟩
  have s3 := s2.call hb
  clear hb s2 c1 f1 z1
  go_wp2
  go_ret
  exact ⟨rfl, s3.below⟩
end Go.Proofs.Yteobcmocjpdcmaa

/- All that the walk of TermsPlaces needs of the places, by kind. -/
namespace Go.Proofs.Yteobcmocjpdcmaa
open Go.ChangeShapes Go.WideShapes Go.ChangeAt Go.RowKit
set_option linter.unusedVariables false
/-- An operation that yields a value and leaves a world, both said. -/
theorem wpList_runs {P : Program} {ops : Array Oper} {rest : List Oper} {o : Oper} {a : Act} {w : World} {Q : Exit → Act → World → Prop} (hg : o.guard = none) (dst : Option Tmp) (hdst : o.dst = dst)
    (v : Value) (w' : World) (hrun : (execOp a.eval o).run P w = .ok (.value v) w') (h : wpList P ops Q rest (a.put dst v) w') : wpList P ops Q (o :: rest) a w := by
  subst hdst
  refine wpList_plain hg fun K hK => ?_
  unfold Oper.wp
  rw [hrun, Oper.upon_value]
  exact hK _ _ h
theorem St.setX {w0 w : World} {l : List (Nat × Array Value × TypeId)} {B i : Nat} {v : Value} (h : St w0 w l) (hB : w0.heap.size ≤ B) (hl : ∀ x ∈ l, x.1 ≠ B) : St w0 (w.setCell ⟨B, i, none⟩ v) l :=
  ⟨h.1.setCell (p := ⟨B, i, none⟩) hB v, fun x hx => ⟨by rw [Below.heap_setCell _ _ _ _ (hl x hx)]; exact (h.2 x hx).1, (h.2 x hx).2⟩⟩
theorem set_at_self {l : List Int} {p : Nat} (h : p < l.length) : (l.set p 1).getD p 0 = 1 := by simp [List.getD, h]
/-- What is known of the places of a channel's terms at a position. -/
structure Plf (k kh kw sh sw tp lf bt rt h w c ch at' : Int) (f : Nat → Int) (st M : Nat) : Prop where
  bd : ∀ i, i < st → f i = -1 ∨ (0 ≤ f i ∧ f i < (M : Int))
  inj : ∀ i j, i < st → j < st → f i ≠ -1 → f i = f j → i = j
  chn : k = 3 ∨ k = 4 → ∀ i, i < st → f i ≠ -1 → Int.tmod (f i) c = ch - 1
  one : k = 1 → pdN f st = 0 ∧ st = M
  win : k ≠ 1 → (pdN f st : Int) = (if k = 2 then (Nx.padN (tapsOf h w c kh kw sh sw tp lf bt rt at') : Int) * c else (Nx.padN (tapsOf h w c kh kw sh sw tp lf bt rt at') : Int)) ∧ pdN f st < st ∧ (coR h w c kh kw sh sw tp lf bt rt at').2.2 = 0 ∧ Nx.padN (tapsOf h w c kh kw sh sw tp lf bt rt at') ≤ 1024
theorem plf_of {k kh kw sh sw tp lf bt rt h w c H V C ch at' : Int} {lw lb st M : Nat} (s : Sit k kh kw sh sw tp lf bt rt h w c H V C lw lb) (hch : 1 ≤ ch ∧ ch ≤ C) (hat : 0 ≤ at' ∧ at' < H * V) (hst : stR k kh kw h w c = (st : Int)) (hM : h * w * c = (M : Int)) :
    Plf k kh kw sh sw tp lf bt rt h w c ch at' (fun i : Nat => plA k c ch h w kw (coR h w c kh kw sh sw tp lf bt rt at').1 (coR h w c kh kw sh sw tp lf bt rt at').2.1 (i : Int)) st M := by
  obtain ⟨hk, hvA, hvB, hou, -, hwn, -, h3c, -⟩ := s
  have hC1 := (vS_yes hvB).2.2.1
  have hc1 := (vS_yes hvA).2.2.1
  have hd1 := (vS_yes hvA).1
  have hw1 := (vS_yes hvA).2.1
  by_cases k1 : k = 1
  · subst k1
    have hsM : st = M := by
      have : stR 1 kh kw h w c = h * w * c := rfl
      rw [this, hM] at hst
      exact_mod_cast hst.symm
    have hf : ∀ i : Nat, plA 1 c ch h w kw (coR h w c kh kw sh sw tp lf bt rt at').1 (coR h w c kh kw sh sw tp lf bt rt at').2.1 (i : Int) = (i : Int) := fun i => if_pos rfl
    refine ⟨fun i hi => ?_, fun i j _ _ _ he => ?_, fun q => by omega, fun _ => ⟨?_, hsM⟩, fun q => absurd rfl q⟩
    · rw [hf]; right; omega
    · rw [hf, hf] at he; exact_mod_cast he
    · unfold pdN
      rw [List.count_eq_zero]
      intro hm
      obtain ⟨i, -, he⟩ := List.mem_map.1 hm
      have he' := (hf i).symm.trans he
      omega
  · obtain ⟨hk1, hk2⟩ := hwn (by omega)
    have hF : 0 ≤ chF k ch := by unfold chF; split <;> omega
    have hB0 : chB k c ch ≤ c := by
      unfold chB
      split
      · omega
      · have := h3c (by omega); omega
    have hFB : chF k ch < chB k c ch := by unfold chF chB; split <;> omega
    obtain ⟨nC, hnC⟩ : ∃ nC : Nat, (nC : Int) = chB k c ch - chF k ch := ⟨(chB k c ch - chF k ch).toNat, by omega⟩
    rcases coR_cases h w c kh kw sh sw tp lf bt rt at' with ⟨e, he, h2⟩ | ⟨rr, qq, he, hf, hn, hcc⟩
    · exfalso
      unfold coR at he
      rw [hou (by omega)] at he
      simp only at he
      rw [if_pos trivial, if_pos hat] at he
      simp at he
      omega
    have hcor := cor_of hf hn
    have htp : tapsOf h w c kh kw sh sw tp lf bt rt at' = tapL h w kw (coR h w c kh kw sh sw tp lf bt rt at').1 (coR h w c kh kw sh sw tp lf bt rt at').2.1 (kh * kw).toNat := by rw [tapsOf_ok hcc, hcc]
    have hz : (coR h w c kh kw sh sw tp lf bt rt at').2.2 = 0 := by rw [hcc]
    have hcor2 : Cor h w kh kw (coR h w c kh kw sh sw tp lf bt rt at').1 (coR h w c kh kw sh sw tp lf bt rt at').2.1 := by rw [hcc]; exact hcor
    obtain ⟨t, ht⟩ : ∃ t, (coR h w c kh kw sh sw tp lf bt rt at').1 = t := ⟨_, rfl⟩
    obtain ⟨u, hu⟩ : ∃ u, (coR h w c kh kw sh sw tp lf bt rt at').2.1 = u := ⟨_, rfl⟩
    rw [ht, hu] at htp hcor2 ⊢
    obtain ⟨N, hN⟩ : ∃ N : Nat, kh * kw = (N : Int) := ⟨(kh * kw).toNat, by have := (mul_bd hk1.1 hk1.2 hk2.1 hk2.2).1; omega⟩
    have hN2 : N ≤ 1024 := by have := (mul_bd hk1.1 hk1.2 hk2.1 hk2.2).2; omega
    rw [hN, Int.toNat_natCast] at htp
    have hstN : st = N * nC := by
      have e : stR k kh kw h w c = (N : Int) * nC := by
        unfold stR
        rw [if_neg k1, hN, hnC]
        by_cases k2 : k = 2
        · rw [if_pos k2, show chB k c ch = c from if_pos k2, show chF k ch = 0 from if_pos k2, Int.sub_zero]
        · rw [if_neg k2, if_pos (by omega), show chB k c ch = ch from if_neg k2, show chF k ch = ch - 1 from if_neg k2, show ch - (ch - 1) = 1 by omega, Int.mul_one]
      rw [hst] at e
      exact_mod_cast e
    have g : Wn4 k c ch h w kw t u nC N := ⟨k1, by omega, hnC, by omega, hF, hB0, hc1, hd1, hw1, hcor.2.2.1, by omega, rfl⟩
    have hcnt := g.count
    have hpl := pad_lt hcor2 hN
    have hpn : pdN (fun i : Nat => plA k c ch h w kw t u (i : Int)) st = Nx.padN (tapL h w kw t u N) * nC := by rw [hstN]; exact hcnt
    refine ⟨fun i hi => ?_, fun i j _ _ h1 h2 => g.inj h1 h2, fun q i hi h1 => g.chn (by omega) h1, fun q => absurd q k1, fun _ => ⟨?_, ?_, hz, ?_⟩⟩
    · have := g.bd i
      rw [hM] at this
      exact this
    · rw [htp, hpn]
      by_cases k2 : k = 2
      · rw [if_pos k2]
        have : (nC : Int) = c := by rw [hnC, show chB k c ch = c from if_pos k2, show chF k ch = 0 from if_pos k2, Int.sub_zero]
        rw [← this]
        push_cast
        rfl
      · rw [if_neg k2]
        have : (nC : Int) = 1 := by rw [hnC, show chB k c ch = ch from if_neg k2, show chF k ch = ch - 1 from if_neg k2]; omega
        have h1 : nC = 1 := by omega
        rw [h1, Nat.mul_one]
    · rw [hpn, hstN]
      exact Nat.mul_lt_mul_of_pos_right hpl (by omega)
    · rw [htp]
      omega
end Go.Proofs.Yteobcmocjpdcmaa
