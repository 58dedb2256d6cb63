/- What Padded of package window returns, for every argument. -/
import Derived.Test.YtcgpeaamblanlaaWinV
namespace Go.Proofs.Ytcgpeaamblanlaa
open Go.ChangeShapes Go.WideShapes Go.ChangeAt Go.RowKit Go.Shelf
attribute [local go_sem] Oper.semAt_some
/-- How many are padding. -/
def padN (l : List (Int × Int)) : Nat := (l.filter fun p => decide (p.2 = -1)).length
theorem padN_hit (l : List (Int × Int)) {x : Int × Int} (h : x.2 = -1) : padN (l ++ [x]) = padN l + 1 := by simp [padN, h]
theorem padN_miss (l : List (Int × Int)) {x : Int × Int} (h : ¬ x.2 = -1) : padN (l ++ [x]) = padN l := by simp [padN, h]
theorem padN_le (l : List (Int × Int)) : padN l ≤ l.length := List.length_filter_le _ _
set_option maxRecDepth 100000 in
set_option maxHeartbeats 4000000 in
theorem padded_any (h w c kh kw sh sw tp lf bt rt n : Int) (W : World) :
    Calls Try.prog 15 #[.agg #[.int .i64 h, .int .i64 w, .int .i64 c], .agg #[.int .i64 kh, .int .i64 kw, .int .i64 sh, .int .i64 sw, .int .i64 tp, .int .i64 lf, .int .i64 bt, .int .i64 rt], .int .i64 n] W fun e w' => e = .returned (.tuple #[.int .i64 (padN (tapsOf h w c kh kw sh sw tp lf bt rt n)), .int .i64 (coR h w c kh kw sh sw tp lf bt rt n).2.2]) ∧ Below W.heap.size W w' := by
  rcases coR_cases h w c kh kw sh sw tp lf bt rt n with ⟨e, he, h2⟩ | ⟨r, q, he, hf, hn, hc⟩
  · rw [tapsOf_no he (by omega), he]
    have HC : Hid (coR h w c kh kw sh sw tp lf bt rt n = (0, 0, e)) := he
    have z1 : (e != 0) = true := by simp; omega
    clear he
    refine (callsIn_wide (n := 3)).1 ?_
    refine callsIn_of_wp_marks Try.func15 rfl trivial ?_ rfl
    simp only [Try.ntmps15, List.size_toArray, List.length_cons, List.length_nil, Nat.reduceAdd, Nat.reduceSub, Array.replicate_succ, Array.replicate_zero, List.push_toArray, List.append_toArray, List.nil_append, List.cons_append]
    refine wpIn_wide.2 ?_
    go_wp2_with fail
    refine (corner_any _ _ _ _ _ _ _ _ _ _ _ _ _).mono ?_
    rintro e w1 ⟨rfl, hb'⟩
    have s1 := (St.start W).new.new.call hb'
    clear hb'
    try simp only [World.size_setCell] at s1
    try simp only [World.size_alloc] at s1
    obtain ⟨c1, f1, zw1_1, c2, f2, zw1_2, -⟩ := s1.rules
    rw [HC.out]
    go_wp2
    exact ⟨.tuple #[.int .i64 0, .int .i64 e], by simp [results, Try.f15, go_sem], rfl, s1.below⟩
  · obtain ⟨ys, hys⟩ : ∃ ys, tapsOf h w c kh kw sh sw tp lf bt rt n = ys := ⟨_, rfl⟩
    have HY : Hid (tapsOf h w c kh kw sh sw tp lf bt rt n = ys) := hys
    have hyl : ys.length ≤ 1024 := by have := tapsOf_len h w c kh kw sh sw tp lf bt rt n; rw [hys] at this; exact this
    rw [hys, hc]
    obtain ⟨t, ht⟩ : ∃ t, n / q * sh - tp = t := ⟨_, rfl⟩
    obtain ⟨u, hu⟩ : ∃ u, n % q * sw - lf = u := ⟨_, rfl⟩
    have HC : Hid (coR h w c kh kw sh sw tp lf bt rt n = (t, u, 0)) := by rw [← ht, ← hu]; exact hc
    clear hys he hf hn hc ht hu
    have hfn : ∀ f, Fence.wide.fn f := fun _ => trivial
    have hdp : Fence.wide.depth = none := rfl
    refine (callsIn_wide (n := 3)).1 ?_
    refine callsIn_of_wp_marks Try.func15 rfl trivial ?_ rfl
    simp only [Try.ntmps15, List.size_toArray, List.length_cons, List.length_nil, Nat.reduceAdd, Nat.reduceSub, Array.replicate_succ, Array.replicate_zero, List.push_toArray, List.append_toArray, List.nil_append, List.cons_append]
    refine wpIn_wide.2 ?_
    go_wp2_with fail
    refine (corner_any _ _ _ _ _ _ _ _ _ _ _ _ _).mono ?_
    rintro e w1 ⟨rfl, hb'⟩
    have s1 := (St.start W).new.new.call hb'
    clear hb'
    try simp only [World.size_setCell] at s1
    try simp only [World.size_alloc] at s1
    obtain ⟨c1, f1, zw1_1, c2, f2, zw1_2, -⟩ := s1.rules
    rw [HC.out]
    go_wp2_with fail
    refine (taps_any _ _ _ _ _ _ _ _ _ _ _ _ _).mono ?_
    rintro e w5 ⟨⟨g, lb, rfl, hit⟩, hb5⟩
    rw [HY.out] at hit
    have s5 := (s1.new (c := #[.int .i64 0]) (t := 3)).call (by simpa using hb5)
    simp only [World.size_alloc] at s5 hit hb5
    obtain ⟨a1, -⟩ := s5.heaps
    have hB5 := s5.below
    have hz1 := s1.size
    clear c1 f1 c2 f2
    go_wp2
    obtain ⟨lo, hlo⟩ : ∃ lo, w1.heap.size + 1 = lo := ⟨_, rfl⟩
    obtain ⟨hi, hhi⟩ : ∃ hi, w5.heap.size = hi := ⟨_, rfl⟩
    have hlh : lo ≤ hi := by rw [← hlo, ← hhi]; simpa using hb5.size
    rw [hlo, hhi] at hit
    obtain ⟨g', lb', hv, heg, hseq⟩ := hit
    obtain ⟨rfl, rfl⟩ : g = g' ∧ lb = lb' := by simpa using hv
    refine (wpIn_wide (n := 3)).1 ?_
    refine wpIn_rangeFunc_ownG (F := Fence.wide) rfl (by omega) (gf := g) (lb := lb) rfl trivial heg (hseq w5 _ (Mid.refl _ _ _)) (fun h k => Mid.trans h k) (fun W l o o' _ h1 h2 _ => Mid.put W l o o' h1 h2) (Below.refl _ _) (fun _ => rfl)
      (fun (pre : List (Int × Int)) W' => Boxed W' w1.heap.size 3 (.int .i64 (padN pre)) ∧ Mid lo hi w5 W' ∧ Below W.heap.size W W')
      (fun _ _ _ => False)
      (by rw [hhi]; exact OwnFrom.and (Own.from (boxed_own _ _ _) _) (OwnFrom.and ownFrom_mid (ownFrom_below (Nat.le_refl _) (by omega))))
      (fun _ _ _ _ _ hs _ _ => hs)
      ⟨a1, Mid.refl _ _ _, hB5⟩ ?a₁ ?assign ?body ?done ?stop
    case assign =>
      intro l x W' K hK
      gi_wp2
      exact hK
    case body =>
      rintro l pre x W' ⟨hv, hmid, hB⟩ hlt
      have hc := hv.cell
      have hf := hv.frozen
      have hp := padN_le pre
      by_cases hx : x.2 = -1
      · have hx' : (x.2 == -1) = true := by simp [hx]
        have HP := padN_hit pre hx
        clear hx
        gi_wp2
        exact ⟨(KeepsOthers.setCell _ _ _).from _, Mid.set _ (.inl (by omega)), by rw [HP]; exact hv.set _, hmid.trans (Mid.set _ (.inl (by omega))), hB.setCell (p := ⟨w1.heap.size, 0, none⟩) (by show W.heap.size ≤ w1.heap.size; omega) _⟩
      · have hx' : (x.2 == -1) = false := by simp [hx]
        have HP := padN_miss pre hx
        clear hx
        gi_wp2
        exact ⟨KeepsFrom.refl _ _, Mid.refl _ _ _, by rw [HP]; exact hv, hmid, hB⟩
    case done =>
      rintro D zs W' hD rfl ⟨hv, hmid, hB⟩ hK
      have hc := hv.cell
      go_wp2
      refine ⟨by simp, .inl ⟨_, _, rfl, run_takeDeferred hK, ?_⟩⟩
      exact ⟨.tuple #[.int .i64 (padN zs), .int .i64 0], by simp [results, Try.f15, go_sem], rfl, hB.trans (belowK_b (w := W) (Nat.le_refl _) W' D _ _ (by omega) hK rfl rfl)⟩
    case stop =>
      rintro D c pre W' _ _ h _
      exact h.elim
end Go.Proofs.Ytcgpeaamblanlaa
