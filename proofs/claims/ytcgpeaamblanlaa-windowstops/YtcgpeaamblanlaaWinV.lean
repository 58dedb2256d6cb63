/- What the law's own pairs and spots collect of an iterator: the first so many of what it gives, in a new slice. -/
import Derived.Test.YtcgpeaamblanlaaWinU
import Derived.Test.YtcgpeaamblanlaaIntA
import Derived.RangeFuncBox
namespace Go.Proofs.Ytcgpeaamblanlaa
open Go.ChangeShapes Go.WideShapes Go.ChangeAt Go.RowKit Go.Shelf
attribute [local go_sem] Oper.semAt_some
def flat (l : List (Int × Int)) : List Int := l.flatMap fun p => [p.1, p.2]
theorem flat_len (l : List (Int × Int)) : (flat l).length = 2 * l.length := by
  induction l with
  | nil => rfl
  | cons x r ih => simp [flat] at ih ⊢; omega
theorem flat_snoc (l : List (Int × Int)) (x : Int × Int) : flat (l ++ [x]) = flat l ++ [x.1, x.2] := by simp [flat]
theorem tapsOf_len (h w c kh kw sh sw tp lf bt rt n : Int) : (tapsOf h w c kh kw sh sw tp lf bt rt n).length ≤ 1024 := by
  rcases coR_cases h w c kh kw sh sw tp lf bt rt n with ⟨e, he, h2⟩ | ⟨r, q, he, hf, hn, hc⟩
  · rw [tapsOf_no he (by omega)]; simp
  · rw [tapsOf_ok hc, tapL_len]
    obtain ⟨-, ⟨k1, k2, -⟩, -⟩ := hf
    have := Int.mul_le_mul k1.2 k2.2 (by omega) (by omega)
    omega
theorem spotsOf_len (h w c kh kw sh sw tp lf bt rt : Int) : (spotsOf h w c kh kw sh sw tp lf bt rt).length ≤ 1440000 := by
  rcases ouR_cases h w c kh kw sh sw tp lf bt rt with ⟨e, he, h2⟩ | ⟨r, q, he, hf⟩
  · rw [spotsOf_no he]; simp
  · unfold spotsOf
    rw [he, spotL_len]
    obtain ⟨-, -, r1, q1, -⟩ := hf
    have := Int.mul_le_mul r1.2 q1.2 (by omega) (by omega)
    simp only; omega
theorem ownFrom_mid {lo hi : Nat} {w : World} {β : Type} : OwnFrom hi (fun (_ : β) W => Mid lo hi w W) := fun _ _ _ _ hs hg hr => hs.trans (Mid.grown hg fun b e => .inr (hr b e).1)
theorem ownFrom_size {B n : Nat} {β : Type} : OwnFrom B (fun (_ : β) (W : World) => n ≤ W.heap.size) := fun _ _ _ _ hs hg _ => Nat.le_trans hs hg.size
theorem ownFrom_pure' {B : Nat} {β : Type} (p : β → Prop) : OwnFrom B (fun (s : β) (_ : World) => p s) := fun _ _ _ _ hs _ _ => hs
/-- 'out = append(out, ..)' where out's variable is box B, ahead of what is kept, and its row lies beyond. -/
theorem appended {W w1 : World} {lo hi n0 B : Nat} {v v' : Value} {k m : Nat} {xs ys : List Value} {tmp : Obj}
    (hv : Boxed W B 34 v) (hrow : W.ownsRow hi 3 1 v k xs) (hhi : hi ≤ W.heap.size) (hB : n0 ≤ B ∧ (B < lo ∨ hi ≤ B)) (hn : n0 ≤ hi)
    (hown' : w1.ownsRow hi 3 1 v' m ys) (hgrow : (W.alloc tmp).grownBy w1 v.ownBlock) :
    Boxed w1 B 34 v ∧ Boxed (w1.setCell ⟨B, 0, none⟩ v') B 34 v' ∧ (w1.setCell ⟨B, 0, none⟩ v').ownsRow hi 3 1 v' m ys ∧ KeepsOthers W (w1.setCell ⟨B, 0, none⟩ v') ∧
      Mid lo hi W (w1.setCell ⟨B, 0, none⟩ v') ∧ Below n0 W (w1.setCell ⟨B, 0, none⟩ v') ∧ (∀ b, b < hi → b ≠ B → ∀ t u, Boxed W b t u → Boxed (w1.setCell ⟨B, 0, none⟩ v') b t u) ∧
      (∀ b t u, b ≠ B → t ≠ 3 → Boxed W b t u → Boxed (w1.setCell ⟨B, 0, none⟩ v') b t u) := by
  have hv1 : Boxed w1 B 34 v := (hv.alloc tmp).kept hgrow (hv.not_row (by decide) hrow)
  have hr : ∀ j, v.ownBlock = some j → hi ≤ j := fun j ej => by
    rcases hrow.2 with ⟨rfl, _⟩ | ⟨g, cap, cur, rfl, hb, _, _⟩
    · simp [Value.ownBlock] at ej
    · obtain rfl : g = j := by simpa [Value.ownBlock] using ej
      exact hb
  refine ⟨hv1, hv1.set v', hown'.kept (grownBy_setCell' w1 B v') (.inr (hv1.not_row (by decide) hown').symm), ?_, ?_, ?_, ?_, ?_⟩
  · refine ((KeepsOthers.alloc W tmp).trans (KeepsOthers.of_grownBy hgrow fun j o ej hj => ?_)).trans (KeepsOthers.setCell _ _ _)
    rcases (hrow.alloc tmp).2 with ⟨rfl, _⟩ | ⟨g, cap, cur, rfl, _, hgb, _⟩
    · simp [Value.ownBlock] at ej
    · obtain rfl : g = j := by simpa [Value.ownBlock] using ej
      rw [hgb] at hj; cases hj; rfl
  · exact ((Mid.later ((Below.refl _ W).alloc (Nat.le_refl _) tmp)).trans (Mid.grown hgrow fun b e => .inr (hr b e))).trans (Mid.set _ hB.2)
  · exact (((Below.refl n0 W).alloc (by omega) tmp).grown hgrow (by simp; omega) fun j ej => (by have := hr j ej; omega)).setCell (p := ⟨B, 0, none⟩) hB.1 v'
  · intro b hb hne t u hbx
    refine (((hbx.alloc tmp).kept hgrow fun e => ?_)).other hne v'
    have := hr b e.symm; omega
  · intro b t u hne ht hbx
    refine (((hbx.alloc tmp).kept hgrow ((hbx.not_row ht hrow)))).other hne v'
theorem ownsRow_slice {W : World} {base : Nat} {e : TypeId} {size : Nat} {v : Value} {k : Nat} {xs : List Value} (h : W.ownsRow base e size v k xs) : ∃ a cap, v = .slice a k cap := by
  rcases h.2 with ⟨rfl, rfl⟩ | ⟨g, cap, _, rfl, _⟩
  · exact ⟨none, 0, rfl⟩
  · exact ⟨_, cap, rfl⟩
theorem two_new_cells (W : World) (a b : Value) (t : TypeId) : ∀ j u, [a, b][j]? = some u → (W.alloc (.cells #[a, b] t)).cell? ((⟨W.heap.size, 0, none⟩ : Addr).add j) = some u := by
  intro j u hj
  match j, hj with
  | 0, hj => simp [Addr.add] at hj ⊢; exact hj
  | 1, hj => simp [Addr.add] at hj ⊢; exact hj
  | j + 2, hj => simp at hj
theorem list_cut {α : Type} {ys ini : List α} {x : α} {k : Nat} (h : ini ++ [x] = ys.take k) : ini = ys.take ini.length := by
  have h2 := congrArg (List.take ini.length) h
  rw [List.take_left' rfl, List.take_take] at h2
  have h3 := congrArg List.length h
  simp at h3
  rw [Nat.min_eq_left (by omega)] at h2
  exact h2
set_option maxRecDepth 100000 in
set_option maxHeartbeats 4000000 in
theorem pairs_any (h w c kh kw sh sw tp lf bt rt n : Int) (mst : Nat) (W : World) :
    Calls Try.prog 14 #[.agg #[.int .i64 h, .int .i64 w, .int .i64 c], .agg #[.int .i64 kh, .int .i64 kw, .int .i64 sh, .int .i64 sw, .int .i64 tp, .int .i64 lf, .int .i64 bt, .int .i64 rt], .int .i64 n, .int .i64 mst] W fun e w' => (∃ v, e = .returned (.tuple #[v, .bool true]) ∧ Own w' W.heap.size v (flat ((tapsOf h w c kh kw sh sw tp lf bt rt n).take mst))) ∧ Below W.heap.size W w' := by
  obtain ⟨ys, hys⟩ : ∃ ys, tapsOf h w c kh kw sh sw tp lf bt rt n = ys := ⟨_, rfl⟩
  have HY : Hid (tapsOf h w c kh kw sh sw tp lf bt rt n = ys) := hys
  have hyl : ys.length ≤ 1500000 := by have := tapsOf_len h w c kh kw sh sw tp lf bt rt n; rw [hys] at this; omega
  rw [hys]
  clear hys
  obtain ⟨i0, hi0, hz0, hz1, hz2⟩ := info_parts Try.infoI
  have hfn : ∀ f, Fence.wide.fn f := fun _ => trivial
  have hdp : Fence.wide.depth = none := rfl
  refine (callsIn_wide (n := 3)).1 ?_
  refine callsIn_of_wp_marks Try.func14 rfl trivial ?_ rfl
  simp only [Try.ntmps14, List.size_toArray, List.length_cons, List.length_nil, Nat.reduceAdd, Nat.reduceSub, Array.replicate_succ, Array.replicate_zero, List.push_toArray, List.append_toArray, List.nil_append, List.cons_append]
  refine wpIn_wide.2 ?_
  go_wp2_with fail
  refine (taps_any _ _ _ _ _ _ _ _ _ _ _ _ _).mono ?_
  rintro e w5 ⟨⟨g, lb, rfl, hit⟩, hb5⟩
  rw [HY.out] at hit
  have s5 := (((((St.start W).new (c := #[.int .i64 h, .int .i64 w, .int .i64 c]) (t := 23)).new (c := #[.int .i64 kh, .int .i64 kw, .int .i64 sh, .int .i64 sw, .int .i64 tp, .int .i64 lf, .int .i64 bt, .int .i64 rt]) (t := 25)).new (c := #[.int .i64 mst]) (t := 3)).new (c := #[.slice none 0 0]) (t := 34)).call (by simpa using hb5)
  simp only [World.size_alloc] at s5 hit hb5
  obtain ⟨a1, a2, -⟩ := s5.heaps
  have hB5 := s5.below
  have hnil := func_not_nil g lb
  go_wp2
  obtain ⟨lo, hlo⟩ : ∃ lo, W.heap.size + 1 + 1 + 1 + 1 = lo := ⟨_, rfl⟩
  obtain ⟨hi, hhi⟩ : ∃ hi, w5.heap.size = hi := ⟨_, rfl⟩
  have hlh : lo ≤ hi := by rw [← hlo, ← hhi]; simpa using hb5.size
  rw [hlo] at hit
  rw [hhi] at hit
  obtain ⟨g', lb', hv, heg, hseq⟩ := hit
  obtain ⟨rfl, rfl⟩ : g = g' ∧ lb = lb' := by simpa using hv
  refine (wpIn_wide (n := 3)).1 ?_
  refine wpIn_rangeFunc_ownG (F := Fence.wide) rfl (by omega) (gf := g) (lb := lb) rfl trivial heg (hseq w5 _ (Mid.refl _ _ _)) (fun h k => Mid.trans h k) (fun W l o o' _ h1 h2 _ => Mid.put W l o o' h1 h2) (Below.refl _ _) (fun _ => rfl)
    (fun (pre : List (Int × Int)) W' => (∃ v, Boxed W' (W.heap.size + 1 + 1 + 1) 34 v ∧ W'.ownsRow hi 3 1 v (2 * pre.length) ((flat pre).map (Value.int .i64)) ∧ pre.length ≤ mst) ∧ Boxed W' (W.heap.size + 1 + 1) 3 (.int .i64 mst) ∧ Mid lo hi w5 W' ∧ Below W.heap.size W W' ∧ hi ≤ W'.heap.size)
    (fun c (pre : List (Int × Int)) W' => (∃ v, Boxed W' (W.heap.size + 1 + 1 + 1) 34 v ∧ W'.ownsRow hi 3 1 v (2 * (pre.length - 1)) ((flat pre.dropLast).map (Value.int .i64)) ∧ (c = .exit 0 ∧ pre.length = mst + 1)) ∧ Below W.heap.size W W')
    (by rw [hhi]; exact OwnFrom.and (Own.from (holdsRow_own hi (W.heap.size + 1 + 1 + 1) 34 3 1 (fun (pre : List (Int × Int)) => 2 * pre.length) (fun (pre : List (Int × Int)) => (flat pre).map (Value.int .i64)) (fun (pre : List (Int × Int)) _ => pre.length ≤ mst)) _) (OwnFrom.and (Own.from (boxed_own _ _ _) _) (OwnFrom.and ownFrom_mid (OwnFrom.and (ownFrom_below (Nat.le_refl _) (by omega)) ownFrom_size))))
    (fun c => by rw [hhi]; exact OwnFrom.and (Own.from (holdsRow_own hi (W.heap.size + 1 + 1 + 1) 34 3 1 (fun (pre : List (Int × Int)) => 2 * (pre.length - 1)) (fun (pre : List (Int × Int)) => (flat pre.dropLast).map (Value.int .i64)) (fun (pre : List (Int × Int)) _ => c = .exit 0 ∧ pre.length = mst + 1)) _) (ownFrom_below (Nat.le_refl _) (by omega)))
    ⟨⟨_, a1, World.ownsRow_nil _ _ _ _, Nat.zero_le _⟩, a2, Mid.refl _ _ _, hB5, by omega⟩ ?a₁ ?assign ?body ?done ?stop
  case assign =>
    intro l x W' K hK
    gi_wp2
    exact hK
  case body =>
    rintro l pre x W' ⟨⟨v, hv, hrow, hpl⟩, b7, hmid, hB, hsz⟩ hlt
    obtain ⟨a, cap, rfl⟩ := ownsRow_slice hrow
    have hc := hv.cell
    have hc7 := b7.cell
    have hq : Int.tdiv (2 * (pre.length : Int)) 2 = (pre.length : Int) := by rw [td (by omega)]; omega
    by_cases hge : pre.length < mst
    · gi_wp2_with (gi_at_builtin; refine wpListIn_append_own _ rfl _ _ 34 rfl hi 3 i0 (.int .i64 0) 1 8 Try.underlying34 hi0 hz0 hz1 hz2 rfl (by decide) _ _ _ rfl (hrow.alloc _) ⟨W'.heap.size, 0, none⟩ 2 2 [.int .i64 x.1, .int .i64 x.2] rfl rfl (two_new_cells _ _ _ _) (by simp [Value.oneCell']) (by unfold maxLen; omega) (by omega) (by simp; omega) ?_; intro v' w1 hown' hgrow _; obtain ⟨g', cap', rfl⟩ := ownsRow_succ hown'; obtain ⟨hv1, hv2, hr2, hk2, hm2, hb2, hx2, -⟩ := appended (lo := lo) (n0 := W.heap.size) hv hrow hsz (by omega) (by omega) hown' hgrow; have hc1 := hv1.cell; have hf1 := hv1.frozen)
      exact ⟨hk2.from _, hm2, ⟨⟨_, hv2, by rw [flat_snoc]; simpa [Nat.mul_add] using hr2, by simp; omega⟩, hx2 _ (by omega) (by omega) _ _ b7, hmid.trans hm2, hB.trans hb2, Nat.le_trans hsz hb2.size⟩⟩
    · have hpe : pre.length = mst := by omega
      gi_wp2
      exact ⟨KeepsFrom.refl _ _, ⟨_, hv, by simpa using hrow, rfl, by simp; omega⟩, hB⟩
  case done =>
    rintro D zs W' hD rfl ⟨⟨v, hv, hrow, hpl⟩, b7, hmid, hB, hsz⟩ hK
    have hrow' : Own W' hi v (flat zs) := by unfold Own; rw [flat_len]; exact hrow
    obtain ⟨a, cap, rfl⟩ := ownsRow_slice hrow
    have hc := hv.cell
    go_wp2
    refine ⟨by simp, .inl ⟨_, _, rfl, run_takeDeferred hK, ?_⟩⟩
    refine ⟨.tuple #[.slice a (2 * zs.length) cap, .bool true], by simp [results, Try.f14, go_sem], ⟨_, rfl, ?_⟩, ?_⟩
    · rw [List.take_of_length_le hpl]
      exact Own.base (ownsRow_putObj hrow' _ hK rfl) (by omega)
    · exact hB.trans (belowK_b (w := W) (Nat.le_refl _) W' D _ _ (by omega) hK rfl rfl)
  case stop =>
    rintro D c pre W' hD ⟨k, hk, rfl⟩ ⟨⟨v, hv, hrow, rfl, hpl⟩, hB⟩ hK
    have hrow' : Own W' hi v (flat (ys.take k).dropLast) := by unfold Own; rw [flat_len, List.length_dropLast]; exact hrow
    rw [show (ys.take k).length - 1 = mst by omega] at hrow
    have HPL : Hid ((ys.take k).length = mst + 1) := hpl
    clear hpl
    obtain ⟨a, cap, rfl⟩ := ownsRow_slice hrow
    have hc := hv.cell
    refine wpIn_wide.2 ?_
    go_wp2
    refine ⟨by simp, .inl ⟨_, _, rfl, run_takeDeferred hK, ?_⟩⟩
    refine ⟨.tuple #[.slice a (2 * mst) cap, .bool true], by simp [results, Try.f14, go_sem], ⟨_, rfl, ?_⟩, ?_⟩
    · have e : (ys.take k).dropLast = ys.take mst := by
        have hpl := HPL.out
        rw [List.dropLast_eq_take, List.take_take, hpl]
        congr 1
        simp at hpl; omega
      exact Own.base (ownsRow_putObj (by rw [e] at hrow'; exact hrow') _ hK rfl) (by omega)
    · exact hB.trans (belowK_b (w := W) (Nat.le_refl _) W' D _ _ (by omega) hK rfl rfl)
set_option maxRecDepth 100000 in
set_option maxHeartbeats 4000000 in
theorem spots_any (h w c kh kw sh sw tp lf bt rt : Int) (mst : Nat) (W : World) :
    Calls Try.prog 13 #[.agg #[.int .i64 h, .int .i64 w, .int .i64 c], .agg #[.int .i64 kh, .int .i64 kw, .int .i64 sh, .int .i64 sw, .int .i64 tp, .int .i64 lf, .int .i64 bt, .int .i64 rt], .int .i64 mst] W fun e w' => (∃ v, e = .returned (.tuple #[v, .bool true]) ∧ Own w' W.heap.size v (flat ((spotsOf h w c kh kw sh sw tp lf bt rt).take mst))) ∧ Below W.heap.size W w' := by
  obtain ⟨ys, hys⟩ : ∃ ys, spotsOf h w c kh kw sh sw tp lf bt rt = ys := ⟨_, rfl⟩
  have HY : Hid (spotsOf h w c kh kw sh sw tp lf bt rt = ys) := hys
  have hyl : ys.length ≤ 1500000 := by have := spotsOf_len h w c kh kw sh sw tp lf bt rt; rw [hys] at this; omega
  rw [hys]
  clear hys
  obtain ⟨i0, hi0, hz0, hz1, hz2⟩ := info_parts Try.infoI
  have hfn : ∀ f, Fence.wide.fn f := fun _ => trivial
  have hdp : Fence.wide.depth = none := rfl
  refine (callsIn_wide (n := 3)).1 ?_
  refine callsIn_of_wp_marks Try.func13 rfl trivial ?_ rfl
  simp only [Try.ntmps13, List.size_toArray, List.length_cons, List.length_nil, Nat.reduceAdd, Nat.reduceSub, Array.replicate_succ, Array.replicate_zero, List.push_toArray, List.append_toArray, List.nil_append, List.cons_append]
  refine wpIn_wide.2 ?_
  go_wp2_with fail
  refine (positions_any _ _ _ _ _ _ _ _ _ _ _ _).mono ?_
  rintro e w5 ⟨⟨g, lb, rfl, hit⟩, hb5⟩
  rw [HY.out] at hit
  have s5 := (((((St.start W).new (c := #[.int .i64 h, .int .i64 w, .int .i64 c]) (t := 23)).new (c := #[.int .i64 kh, .int .i64 kw, .int .i64 sh, .int .i64 sw, .int .i64 tp, .int .i64 lf, .int .i64 bt, .int .i64 rt]) (t := 25)).new (c := #[.int .i64 mst]) (t := 3)).new (c := #[.slice none 0 0]) (t := 34)).call (by simpa using hb5)
  simp only [World.size_alloc] at s5 hit hb5
  obtain ⟨a1, a2, -⟩ := s5.heaps
  have hB5 := s5.below
  have hnil := func_not_nil g lb
  go_wp2
  obtain ⟨lo, hlo⟩ : ∃ lo, W.heap.size + 1 + 1 + 1 + 1 = lo := ⟨_, rfl⟩
  obtain ⟨hi, hhi⟩ : ∃ hi, w5.heap.size = hi := ⟨_, rfl⟩
  have hlh : lo ≤ hi := by rw [← hlo, ← hhi]; simpa using hb5.size
  rw [hlo] at hit
  rw [hhi] at hit
  obtain ⟨g', lb', hv, heg, hseq⟩ := hit
  obtain ⟨rfl, rfl⟩ : g = g' ∧ lb = lb' := by simpa using hv
  refine (wpIn_wide (n := 3)).1 ?_
  refine wpIn_rangeFunc_ownG (F := Fence.wide) rfl (by omega) (gf := g) (lb := lb) rfl trivial heg (hseq w5 _ (Mid.refl _ _ _)) (fun h k => Mid.trans h k) (fun W l o o' _ h1 h2 _ => Mid.put W l o o' h1 h2) (Below.refl _ _) (fun _ => rfl)
    (fun (pre : List (Int × Int)) W' => (∃ v, Boxed W' (W.heap.size + 1 + 1 + 1) 34 v ∧ W'.ownsRow hi 3 1 v (2 * pre.length) ((flat pre).map (Value.int .i64)) ∧ pre.length ≤ mst) ∧ Boxed W' (W.heap.size + 1 + 1) 3 (.int .i64 mst) ∧ Mid lo hi w5 W' ∧ Below W.heap.size W W' ∧ hi ≤ W'.heap.size)
    (fun c (pre : List (Int × Int)) W' => (∃ v, Boxed W' (W.heap.size + 1 + 1 + 1) 34 v ∧ W'.ownsRow hi 3 1 v (2 * (pre.length - 1)) ((flat pre.dropLast).map (Value.int .i64)) ∧ (c = .exit 0 ∧ pre.length = mst + 1)) ∧ Below W.heap.size W W')
    (by rw [hhi]; exact OwnFrom.and (Own.from (holdsRow_own hi (W.heap.size + 1 + 1 + 1) 34 3 1 (fun (pre : List (Int × Int)) => 2 * pre.length) (fun (pre : List (Int × Int)) => (flat pre).map (Value.int .i64)) (fun (pre : List (Int × Int)) _ => pre.length ≤ mst)) _) (OwnFrom.and (Own.from (boxed_own _ _ _) _) (OwnFrom.and ownFrom_mid (OwnFrom.and (ownFrom_below (Nat.le_refl _) (by omega)) ownFrom_size))))
    (fun c => by rw [hhi]; exact OwnFrom.and (Own.from (holdsRow_own hi (W.heap.size + 1 + 1 + 1) 34 3 1 (fun (pre : List (Int × Int)) => 2 * (pre.length - 1)) (fun (pre : List (Int × Int)) => (flat pre.dropLast).map (Value.int .i64)) (fun (pre : List (Int × Int)) _ => c = .exit 0 ∧ pre.length = mst + 1)) _) (ownFrom_below (Nat.le_refl _) (by omega)))
    ⟨⟨_, a1, World.ownsRow_nil _ _ _ _, Nat.zero_le _⟩, a2, Mid.refl _ _ _, hB5, by omega⟩ ?a₁ ?assign ?body ?done ?stop
  case assign =>
    intro l x W' K hK
    gi_wp2
    exact hK
  case body =>
    rintro l pre x W' ⟨⟨v, hv, hrow, hpl⟩, b7, hmid, hB, hsz⟩ hlt
    obtain ⟨a, cap, rfl⟩ := ownsRow_slice hrow
    have hc := hv.cell
    have hc7 := b7.cell
    have hq : Int.tdiv (2 * (pre.length : Int)) 2 = (pre.length : Int) := by rw [td (by omega)]; omega
    by_cases hge : pre.length < mst
    · gi_wp2_with (gi_at_builtin; refine wpListIn_append_own _ rfl _ _ 34 rfl hi 3 i0 (.int .i64 0) 1 8 Try.underlying34 hi0 hz0 hz1 hz2 rfl (by decide) _ _ _ rfl (hrow.alloc _) ⟨W'.heap.size, 0, none⟩ 2 2 [.int .i64 x.1, .int .i64 x.2] rfl rfl (two_new_cells _ _ _ _) (by simp [Value.oneCell']) (by unfold maxLen; omega) (by omega) (by simp; omega) ?_; intro v' w1 hown' hgrow _; obtain ⟨g', cap', rfl⟩ := ownsRow_succ hown'; obtain ⟨hv1, hv2, hr2, hk2, hm2, hb2, hx2, -⟩ := appended (lo := lo) (n0 := W.heap.size) hv hrow hsz (by omega) (by omega) hown' hgrow; have hc1 := hv1.cell; have hf1 := hv1.frozen)
      exact ⟨hk2.from _, hm2, ⟨⟨_, hv2, by rw [flat_snoc]; simpa [Nat.mul_add] using hr2, by simp; omega⟩, hx2 _ (by omega) (by omega) _ _ b7, hmid.trans hm2, hB.trans hb2, Nat.le_trans hsz hb2.size⟩⟩
    · have hpe : pre.length = mst := by omega
      gi_wp2
      exact ⟨KeepsFrom.refl _ _, ⟨_, hv, by simpa using hrow, rfl, by simp; omega⟩, hB⟩
  case done =>
    rintro D zs W' hD rfl ⟨⟨v, hv, hrow, hpl⟩, b7, hmid, hB, hsz⟩ hK
    have hrow' : Own W' hi v (flat zs) := by unfold Own; rw [flat_len]; exact hrow
    obtain ⟨a, cap, rfl⟩ := ownsRow_slice hrow
    have hc := hv.cell
    go_wp2
    refine ⟨by simp, .inl ⟨_, _, rfl, run_takeDeferred hK, ?_⟩⟩
    refine ⟨.tuple #[.slice a (2 * zs.length) cap, .bool true], by simp [results, Try.f13, go_sem], ⟨_, rfl, ?_⟩, ?_⟩
    · rw [List.take_of_length_le hpl]
      exact Own.base (ownsRow_putObj hrow' _ hK rfl) (by omega)
    · exact hB.trans (belowK_b (w := W) (Nat.le_refl _) W' D _ _ (by omega) hK rfl rfl)
  case stop =>
    rintro D c pre W' hD ⟨k, hk, rfl⟩ ⟨⟨v, hv, hrow, rfl, hpl⟩, hB⟩ hK
    have hrow' : Own W' hi v (flat (ys.take k).dropLast) := by unfold Own; rw [flat_len, List.length_dropLast]; exact hrow
    rw [show (ys.take k).length - 1 = mst by omega] at hrow
    have HPL : Hid ((ys.take k).length = mst + 1) := hpl
    clear hpl
    obtain ⟨a, cap, rfl⟩ := ownsRow_slice hrow
    have hc := hv.cell
    refine wpIn_wide.2 ?_
    go_wp2
    refine ⟨by simp, .inl ⟨_, _, rfl, run_takeDeferred hK, ?_⟩⟩
    refine ⟨.tuple #[.slice a (2 * mst) cap, .bool true], by simp [results, Try.f13, go_sem], ⟨_, rfl, ?_⟩, ?_⟩
    · have e : (ys.take k).dropLast = ys.take mst := by
        have hpl := HPL.out
        rw [List.dropLast_eq_take, List.take_take, hpl]
        congr 1
        simp at hpl; omega
      exact Own.base (ownsRow_putObj (by rw [e] at hrow'; exact hrow') _ hK rfl) (by omega)
    · exact hB.trans (belowK_b (w := W) (Nat.le_refl _) W' D _ _ (by omega) hK rfl rfl)
end Go.Proofs.Ytcgpeaamblanlaa
