/- The walk of WindowStops. -/
import Derived.Test.YtcgpeaamblanlaaWinW
import Derived.Deep.RegionHeld3
import Derived.Deep.DeepCutAuto
namespace Go.Proofs.Ytcgpeaamblanlaa
open Go.ChangeShapes Go.WideShapes Go.ChangeAt Go.RowKit Go.Shelf BigFrame
attribute [local go_sem] Oper.semAt_some
theorem rem7 (x : Int) : ∃ m : Nat, m ≤ 6 ∧ (if 0 < x.tmod 7 then x.tmod 7 else 0) = (m : Int) ∧ -6 ≤ x.tmod 7 ∧ x.tmod 7 ≤ 6 := by
  have h : (x.tmod 7).natAbs < 7 := by
    rw [Int.natAbs_tmod]
    exact Nat.mod_lt _ (by decide)
  refine ⟨(x.tmod 7).toNat, by omega, ?_, by omega, by omega⟩
  split <;> omega
theorem boxed_below {w w' : World} {B : Nat} {t : TypeId} {v : Value} (h : Boxed w B t v) (k : Below w.heap.size w w') : Boxed w' B t v := (k.block B h.lt).trans h
theorem below_cells {w w' : World} (k : Below w.heap.size w w') : ∀ b i : Nat, b < w.heap.size → w'.cell? ⟨b, i, none⟩ = w.cell? ⟨b, i, none⟩ := fun b i hb => k.cell (p := ⟨b, i, none⟩) hb
theorem below_frozen {w w' : World} (k : Below w.heap.size w w') : ∀ b i : Nat, b < w.heap.size → w'.frozen? ⟨b, i, none⟩ = w.frozen? ⟨b, i, none⟩ := fun b i hb => by
  have := k.block b hb
  simp only [World.frozen?, this]
/-- What a world holds of the shape and the window. -/
theorem keepC {P Q : Nat} {a b : Array Value} {w2 w w' : World} (h : (∀ i, w.cell? ⟨P, i, none⟩ = a[i]?) ∧ (∀ i, w.cell? ⟨Q, i, none⟩ = b[i]?) ∧ Below w2.heap.size w2 w ∧ P < w2.heap.size ∧ Q < w2.heap.size) (k : Below w.heap.size w w') :
    (∀ i, w'.cell? ⟨P, i, none⟩ = a[i]?) ∧ (∀ i, w'.cell? ⟨Q, i, none⟩ = b[i]?) ∧ Below w2.heap.size w2 w' ∧ P < w2.heap.size ∧ Q < w2.heap.size := by
  obtain ⟨h1, h2, h3, h4, h5⟩ := h
  have hz := h3.size
  exact ⟨fun i => (k.cell (p := ⟨P, i, none⟩) (by show P < w.heap.size; omega)).trans (h1 i), fun i => (k.cell (p := ⟨Q, i, none⟩) (by show Q < w.heap.size; omega)).trans (h2 i), h3.trans (k.mono hz), h4, h5⟩
theorem keepS {P Q T : Nat} {a b : Array Value} {w2 w : World} {v : Value} (h : (∀ i, w.cell? ⟨P, i, none⟩ = a[i]?) ∧ (∀ i, w.cell? ⟨Q, i, none⟩ = b[i]?) ∧ Below w2.heap.size w2 w ∧ P < w2.heap.size ∧ Q < w2.heap.size) (k : w2.heap.size ≤ T) :
    (∀ i, (w.setCell ⟨T, 0, none⟩ v).cell? ⟨P, i, none⟩ = a[i]?) ∧ (∀ i, (w.setCell ⟨T, 0, none⟩ v).cell? ⟨Q, i, none⟩ = b[i]?) ∧ Below w2.heap.size w2 (w.setCell ⟨T, 0, none⟩ v) ∧ P < w2.heap.size ∧ Q < w2.heap.size := by
  obtain ⟨h1, h2, h3, h4, h5⟩ := h
  have e : Below w2.heap.size w (w.setCell ⟨T, 0, none⟩ v) := (Below.refl _ w).setCell (p := ⟨T, 0, none⟩) k v
  exact ⟨fun i => (e.cell (p := ⟨P, i, none⟩) h4).trans (h1 i), fun i => (e.cell (p := ⟨Q, i, none⟩) h5).trans (h2 i), h3.trans e, h4, h5⟩
set_option maxRecDepth 100000 in
set_option maxHeartbeats 32000000 in
theorem windowStops_walk (h w c kh kw sh sw tp lf bt rt n nn : Int) (W : World) (_w0 : (Lit.int .i64 h).wf = true) (_w1 : (Lit.int .i64 w).wf = true) (_w2 : (Lit.int .i64 c).wf = true) (_w3 : (Lit.int .i64 kh).wf = true) (_w4 : (Lit.int .i64 kw).wf = true) (_w5 : (Lit.int .i64 sh).wf = true) (_w6 : (Lit.int .i64 sw).wf = true) (_w7 : (Lit.int .i64 tp).wf = true) (_w8 : (Lit.int .i64 lf).wf = true) (_w9 : (Lit.int .i64 bt).wf = true) (_w10 : (Lit.int .i64 rt).wf = true) (_w11 : (Lit.int .i64 n).wf = true) (_w12 : (Lit.int .i64 nn).wf = true) :
    Calls Try.prog 6 #[.agg #[.int .i64 h, .int .i64 w, .int .i64 c, .int .i64 kh, .int .i64 kw, .int .i64 sh, .int .i64 sw, .int .i64 tp, .int .i64 lf, .int .i64 bt, .int .i64 rt, .int .i64 n, .int .i64 nn]] W fun e w' => e = .returned (.bool true) ∧ Below W.heap.size W w' := by
  clear _w0 _w1 _w2 _w3 _w4 _w5 _w6 _w7 _w8 _w9 _w10 _w11 _w12
  obtain ⟨ys, hys⟩ : ∃ ys, tapsOf h w c kh kw sh sw tp lf bt rt n = ys := ⟨_, rfl⟩
  have HY : Hid (tapsOf h w c kh kw sh sw tp lf bt rt n = ys) := hys
  have hyl : ys.length ≤ 1024 := by have := tapsOf_len h w c kh kw sh sw tp lf bt rt n; rw [hys] at this; exact this
  clear hys
  obtain ⟨zs, hzs⟩ : ∃ zs, spotsOf h w c kh kw sh sw tp lf bt rt = zs := ⟨_, rfl⟩
  have HZ : Hid (spotsOf h w c kh kw sh sw tp lf bt rt = zs) := hzs
  have hzl : zs.length ≤ 1500000 := by have := spotsOf_len h w c kh kw sh sw tp lf bt rt; rw [hzs] at this; omega
  clear hzs
  obtain ⟨m, hm6, hmx, hr1, hr2⟩ := rem7 nn
  obtain ⟨r, hr⟩ : ∃ r, nn.tmod 7 = r := ⟨_, rfl⟩
  rw [hr] at hmx hr1 hr2
  have hst : ∀ (g : Nat) (lb : Array Value) (a : Addr) (w : World), (store a (.func (.func g) #[] lb)).run Try.prog w = stored Try.prog w a (.func (.func g) #[] lb) .plain := fun _ _ _ _ => run_store _ _ _ _ _ rfl
  have hfn : ∀ f, Fence.wide.fn f := fun _ => trivial
  have hdp : Fence.wide.depth = none := rfl
  refine (callsIn_wide (n := 6)).1 ?_
  refine callsIn_of_wp_marks Try.func6 rfl trivial ?_ rfl
  simp only [Try.ntmps6, List.size_toArray, List.length_cons, List.length_nil, Nat.reduceAdd, Nat.reduceSub, Array.replicate_succ, Array.replicate_zero, List.push_toArray, List.append_toArray, List.nil_append, List.cons_append]
  refine wpIn_wide.2 ?_
  go_upto_region 1 with fail
  go_cut [3, 4, 5, 6] from 24 to 31 (fun x3 x4 x5 x6 wx => ∃ P Q R : Nat, x3 = .pointer (some ⟨P, 0, none⟩) ∧ x4 = .pointer (some ⟨Q, 0, none⟩) ∧ x5 = .int .i64 n ∧ x6 = .pointer (some ⟨R, 0, none⟩) ∧ St W wx [(P, #[.int .i64 h, .int .i64 w, .int .i64 c], 23), (Q, #[.int .i64 kh, .int .i64 kw, .int .i64 sh, .int .i64 sw, .int .i64 tp, .int .i64 lf, .int .i64 bt, .int .i64 rt], 25), (R, #[.int .i64 nn], 3)] ∧ P ≠ R ∧ Q ≠ R)
  case first =>
    go_region_held3 (fun w' => (∀ i, w'.cell? ⟨W.heap.size, i, none⟩ = #[Value.int .i64 h, .int .i64 w, .int .i64 c, .int .i64 kh, .int .i64 kw, .int .i64 sh, .int .i64 sw, .int .i64 tp, .int .i64 lf, .int .i64 bt, .int .i64 rt, .int .i64 n, .int .i64 nn][i]?))
      ((intro i; simp [go_sem, *])) (fail)
    all_goals
      refine (show ∀ a' w', Met _ a' w' → _ from by assumption) _ _ ?_
      go_meet
      exact ⟨_, _, _, rfl, rfl, rfl, rfl, (three_new W _ _ _ _ _ _ _).sub (by simp), by omega, by omega⟩
  case rest =>
  obtain ⟨P, Q, R, rfl, rfl, rfl, rfl, s0, hPR, hQR⟩ := hcut
  obtain ⟨c1, f1, zz1, c2, f2, zz2, c3, f3, zz3, -⟩ := s0.rules
  go_wp2_with fail
  refine (fixed_any _).mono ?_
  rintro e w1 ⟨rfl, hb'⟩
  have s1 := s0.call hb'
  clear hb' c1 f1 c2 f2 c3 f3
  try simp only [World.size_setCell] at s1
  try simp only [World.size_alloc] at s1
  obtain ⟨c1, f1, zw1_1, c2, f2, zw1_2, c3, f3, zw1_3, -⟩ := s1.rules
  go_upto_region 5 with fail
  have s2 := (s1.up2.set (i := 0) (v := .int .i64 m) (by simp [hPR, hQR]))
  simp only [List.setIfInBounds_toArray, List.set_cons_zero] at s2
  obtain ⟨w2, hw2⟩ : ∃ w2, w1.setCell ⟨R, 0, none⟩ (.int .i64 m) = w2 := ⟨_, rfl⟩
  rw [hw2] at s2
  rw [hw2]
  clear hw2 c1 f1 c2 f2 c3 f3 s0 s1 zz1 zz2 zz3 zw1_1 zw1_2 zw1_3
  obtain ⟨c3, f3, zz3, c1, f1, zz1, c2, f2, zz2, -⟩ := s2.rules
  go_cut [7, 8] from 37 to 43 (fun x7 x8 wx => ∃ (T g1 g2 lo1 hi1 lo2 hi2 : Nat) (lb1 lb2 : Array Value), x7 = .pointer (some ⟨T, 0, none⟩) ∧ x8 = .func (.func g2) #[] lb2 ∧ Boxed wx T 46 (.func (.func g1) #[] lb1) ∧ Below w2.heap.size w2 wx ∧ It lo1 hi1 wx (.func (.func g1) #[] lb1) ys ∧ It lo2 hi2 wx (.func (.func g2) #[] lb2) zs ∧ hi1 ≤ wx.heap.size ∧ hi2 ≤ wx.heap.size)
  case first =>
    have hD : (∀ i, w2.drew.cell? ⟨P, i, none⟩ = #[Value.int .i64 h, .int .i64 w, .int .i64 c][i]?) ∧ (∀ i, w2.drew.cell? ⟨Q, i, none⟩ = #[Value.int .i64 kh, .int .i64 kw, .int .i64 sh, .int .i64 sw, .int .i64 tp, .int .i64 lf, .int .i64 bt, .int .i64 rt][i]?) ∧ Below w2.heap.size w2 w2.drew ∧ P < w2.heap.size ∧ Q < w2.heap.size := ⟨c1, c2, (Below.refl _ _).drew, zz1, zz2⟩
    clear c1 c2 c3 f1 f2 f3
    have zd : w2.drew.heap.size = w2.heap.size := rfl
    go_region_held3 (fun w' => (∀ i, w'.cell? ⟨P, i, none⟩ = #[Value.int .i64 h, .int .i64 w, .int .i64 c][i]?) ∧ (∀ i, w'.cell? ⟨Q, i, none⟩ = #[Value.int .i64 kh, .int .i64 kw, .int .i64 sh, .int .i64 sw, .int .i64 tp, .int .i64 lf, .int .i64 bt, .int .i64 rt][i]?) ∧ Below w2.heap.size w2 w' ∧ P < w2.heap.size ∧ Q < w2.heap.size)
      ((first | exact hD | exact keepC hD ((Below.refl _ _).alloc (Nat.le_refl _) _) | exact keepS hD (by omega) | exact keepS (keepC hD ((Below.refl _ _).alloc (Nat.le_refl _) _)) (by omega)))
      (first | (go_at_call 18; refine (taps_any _ _ _ _ _ _ _ _ _ _ _ _ _).mono ?_; rintro e wA ⟨⟨g1, lb1, rfl, it1⟩, bA⟩; (first | replace hD := keepC hD bA | replace hD := keepC (keepC hD ((Below.refl _ _).alloc (Nat.le_refl _) _)) bA); have kA := below_cells bA; have fA := below_frozen bA; have zA := bA.size; (try simp only [World.size_alloc] at zA); (try simp only [World.size_alloc] at kA fA)) | (go_at_call 19; refine (positions_any _ _ _ _ _ _ _ _ _ _ _ _).mono ?_; rintro e wB ⟨⟨g2, lb2, rfl, it2⟩, bB⟩; (first | replace hD := keepC hD bB | replace hD := keepC (keepC hD ((Below.refl _ _).alloc (Nat.le_refl _) _)) bB); have kB := below_cells bB; have fB := below_frozen bB; have zB := bB.size; (try simp only [World.size_alloc] at zB); (try simp only [World.size_alloc] at kB fB); (first | (have tB : wB.cell? ⟨wA.heap.size, 0, none⟩ = some .nilFunc := (by rw [kB wA.heap.size 0 (by omega)]; simp [go_sem]); have tF : wB.frozen? ⟨wA.heap.size, 0, none⟩ = false := (by rw [fB wA.heap.size 0 (by omega)]; simp [go_sem])) | (have z1 : (w2.alloc (.cells #[.nilFunc] 46)).heap.size ≤ wA.heap.size := zA; rw [World.size_alloc] at z1; have tB : wB.cell? ⟨w2.heap.size, 0, none⟩ = some .nilFunc := (by rw [kB w2.heap.size 0 (by omega), kA w2.heap.size 0 (by show w2.heap.size < (w2.alloc _).heap.size; rw [World.size_alloc]; omega)]; show (w2.alloc _).cell? ⟨w2.heap.size, 0, none⟩ = _; simp [go_sem]); have tF : wB.frozen? ⟨w2.heap.size, 0, none⟩ = false := (by rw [fB w2.heap.size 0 (by omega), fA w2.heap.size 0 (by show w2.heap.size < (w2.alloc _).heap.size; rw [World.size_alloc]; omega)]; show (w2.alloc _).frozen? ⟨w2.heap.size, 0, none⟩ = _; simp [go_sem])) | skip); clear kA fA kB fB))
    · rw [HY.out] at it1
      rw [HZ.out] at it2
      refine (show ∀ a' w', Met _ a' w' → _ from by assumption) _ _ ?_
      go_meet
      exact ⟨_, _, _, _, _, _, _, _, _, rfl, rfl, Boxed.new wB _ _, (keepC hD ((Below.refl _ _).alloc (Nat.le_refl _) _)).2.2.1, (it1.later bB).later ((Below.refl _ _).alloc (Nat.le_refl _) _), it2.later ((Below.refl _ _).alloc (Nat.le_refl _) _), by simp; omega, by simp⟩
    · rw [HY.out] at it1
      rw [HZ.out] at it2
      refine (show ∀ a' w', Met _ a' w' → _ from by assumption) _ _ ?_
      go_meet
      have bT := boxed_below (Boxed.new wA 46 .nilFunc) bB
      exact ⟨_, _, _, _, _, _, _, _, _, rfl, rfl, bT.set _, (keepS hD (by omega)).2.2.1, (((it1.later ((Below.refl _ _).alloc (Nat.le_refl _) _)).later bB)).mid (Mid.set _ (.inr (Nat.le_refl _))), it2.mid (Mid.set _ (.inl (by simp))), by simp; omega, by simp⟩
    · rw [HY.out] at it1
      rw [HZ.out] at it2
      refine (show ∀ a' w', Met _ a' w' → _ from by assumption) _ _ ?_
      go_meet
      have bT := boxed_below (boxed_below (show Boxed (w2.alloc (.cells #[.nilFunc] 46)).drew w2.heap.size 46 .nilFunc from Boxed.new w2 _ _) bA) bB
      have z1 : (w2.alloc (.cells #[.nilFunc] 46)).heap.size ≤ wA.heap.size := zA
      rw [World.size_alloc] at z1
      exact ⟨_, _, _, _, _, _, _, _, _, rfl, rfl, bT.set _, (keepS hD (by omega)).2.2.1, (it1.later bB).mid (Mid.set _ (.inl (show w2.heap.size < (w2.alloc _).heap.size by rw [World.size_alloc]; omega))), it2.mid (Mid.set _ (.inl (by omega))), by simp; omega, by simp⟩
  case rest =>
  obtain ⟨T, g1, g2, lo1, hi1, lo2, hi2, lb1, lb2, rfl, rfl, bT, hb3, it1, it2, hh1, hh2⟩ := hcut
  have s3 := s2.call hb3
  clear c1 f1 c2 f2 c3 f3 zz1 zz2 zz3 hb3
  obtain ⟨c3, f3, zz3, c1, f1, zz1, c2, f2, zz2, -⟩ := s3.rules
  have cT := bT.cell
  have hn1 := func_not_nil g1 lb1
  have hn2 := func_not_nil g2 lb2
  go_wp2_with fail
  refine (pairs_any h w c kh kw sh sw tp lf bt rt n 2000000 _).mono ?_
  rintro e w6 ⟨⟨v9, rfl, own9⟩, hb6⟩
  have HF : Hid (flat ((tapsOf h w c kh kw sh sw tp lf bt rt n).take 2000000) = flat ys) := by
    unfold Hid
    rw [HY.out, List.take_of_length_le (by omega)]
  rw [HF.out] at own9
  have s6 := s3.call hb6
  replace it1 := it1.later hb6
  replace it2 := it2.later hb6
  replace bT := boxed_below bT hb6
  replace hh1 := Nat.le_trans hh1 hb6.size
  replace hh2 := Nat.le_trans hh2 hb6.size
  clear c1 f1 c2 f2 c3 f3 zz1 zz2 zz3 hb6 cT HF
  obtain ⟨c3, f3, zz3, c1, f1, zz1, c2, f2, zz2, -⟩ := s6.rules
  have cT := bT.cell
  have cT7 := (((bT.alloc (.cells #[.slice none 0 0] 34)).alloc (.cells #[.slice none 0 0] 34)).alloc (.cells #[.slice none 0 0] 34)).cell
  replace own9 := own9.base (Nat.zero_le _)
  obtain ⟨a9, cap9, hv9, -⟩ := own9.rowN (n := 2 * ys.length) (flat_len ys)
  subst hv9
  go_wp2
  obtain ⟨s, hs⟩ : ∃ s, w6.heap.size = s := ⟨_, rfl⟩
  have hL0 : L3 s w6 s (s + 1) (s + 1 + 1) [] [] [] (((w6.alloc (.cells #[.slice none 0 0] 34)).alloc (.cells #[.slice none 0 0] 34)).alloc (.cells #[.slice none 0 0] 34)) := by
    subst hs
    refine ⟨_, _, _, ((Boxed.new w6 _ _).alloc _).alloc _, ?_, ?_, Pr.nil _ _, Pr.nil _ _, Pr.nil _ _, ⟨Apt.nil _, Apt.nil _, Apt.nil _⟩, (((Below.refl _ w6).alloc (Nat.le_refl _) _).alloc (by simp) _).alloc (by simp; omega) _⟩
    · have := (Boxed.new (w6.alloc (.cells #[.slice none 0 0] 34)) 34 (.slice none 0 0)).alloc (.cells #[.slice none 0 0] 34)
      rw [World.size_alloc] at this
      exact this
    · have := Boxed.new ((w6.alloc (.cells #[.slice none 0 0] 34)).alloc (.cells #[.slice none 0 0] 34)) 34 (.slice none 0 0)
      rw [World.size_alloc, World.size_alloc] at this
      exact this
  have hz7 : (((w6.alloc (.cells #[.slice none 0 0] 34)).alloc (.cells #[.slice none 0 0] 34)).alloc (.cells #[.slice none 0 0] 34)).heap.size = s + 3 := by simp [hs]
  obtain ⟨w7, hw7⟩ : ∃ w7, ((w6.alloc (.cells #[.slice none 0 0] 34)).alloc (.cells #[.slice none 0 0] 34)).alloc (.cells #[.slice none 0 0] 34) = w7 := ⟨_, rfl⟩
  rw [hw7] at hL0 hz7
  rw [hw7]
  clear hw7 c1 f1 c2 f2 c3 f3
  have hsw : s ≤ w6.heap.size := by omega
  have hbs : ∀ X, Below s w6 X → Below w6.heap.size w6 X := fun X h => by rw [hs]; exact h
  have hTs : T < s := by have := bT.lt; omega
  simp only [hs]
  have hb7 : Below s w6 w7 := by obtain ⟨_, _, _, _, _, _, _, _, _, _, hb⟩ := hL0; exact hb
  have it17 : It lo1 hi1 w7 (.func (.func g1) #[] lb1) ys := it1.mid (Mid.below hb7 (by omega))
  refine range_meet (n := 6) (id := 0) (fun D W' => L3 s w6 s (s + 1) (s + 1 + 1) (ys.take m) (T2 m ys) [] W' ∧ s ≤ D ∧ Marks W' [D]) ?loop1 ?hx1 ?rest1
  case hx1 =>
    intro a' w' h
    exact h
  case loop1 =>
    intro Q2 q1 q2
    refine range_it it17 rfl rfl (by omega)
      (fun pre W' => L3 s w6 s (s + 1) (s + 1 + 1) pre (T1 pre ys) [] W' ∧ pre.length ≤ m)
      (fun c pre W' => L3 s w6 s (s + 1) (s + 1 + 1) pre.dropLast (T2 m ys) [] W' ∧ c = .exit 0 ∧ pre.length = m + 1)
      (fun pre X Y row h hg hr => ⟨h.1.turn (hi := w7.heap.size) (by omega) hg hr hsw, h.2⟩)
      (fun c pre X Y row h hg hr => ⟨h.1.turn (hi := w7.heap.size) (by omega) hg hr hsw, h.2⟩)
      ⟨by rw [T1_nil]; exact hL0, Nat.zero_le _⟩ ?a₁L1 ?assignL1 ?bodyL1 ?doneL1 ?stopL1
    case assignL1 =>
      intro l x W' K hK
      gi_wp2
      exact hK
    case bodyL1 =>
      rintro l pre x W' hl ⟨rr, hrr⟩ ⟨⟨v1, v2, v3, a1, a2, a3, r1, r2, r3, hp, hb⟩, hpl⟩ hlt
      have r1' := r1
      unfold Pr at r1'
      obtain ⟨ad1, cap1, rfl⟩ := ownsRow_slice r1'
      have hc1 := a1.cell
      have sW := s6.call (hbs _ hb)
      obtain ⟨c3, -, -, -⟩ := sW.rules
      have hsz : s ≤ W'.heap.size := Nat.le_trans hsw hb.size
      by_cases hge : pre.length < m
      · by_cases hpre : pre = []
        · subst hpre
          have bT' := boxed_below bT (hbs _ hb)
          gi_wp2_with (gi_at_builtin; refine wpListIn_app_at _ rfl _ _ rfl s _ _ _ rfl (World.ownsRow.alloc r1' _) ⟨W'.heap.size, 0, none⟩ x.1 x.2 rfl (two_new_cells _ _ _ _) (by simp) (by simp; omega) ?_; intro v' w1' hown' hgrow hat; simp only [List.length_nil, Nat.mul_zero, Nat.zero_add] at hown'; obtain ⟨g', cap', rfl⟩ := ownsRow_two hown'; obtain ⟨hv1, hk2, hb2, hL2, hbx⟩ := app3 (x := x) hsw (Nat.le_refl _) (by omega) a1 a2 a3 r1 r2 r3 hp hb hown' hgrow hat; have hc2 := hv1.cell; have hf2 := hv1.frozen; have cT2 := (boxed_below bT (hbs _ (hb.trans hb2))).cell; have cT3 := (hbx _ _ _ hTs bT').cell)
          obtain ⟨W2, hW2⟩ : ∃ W2, w1'.setCell ⟨s, 0, none⟩ (.slice (some ⟨g', 0, none⟩) 2 cap') = W2 := ⟨_, rfl⟩
          rw [hW2] at hk2 hb2 hL2
          rw [hW2]
          have hrr2 : W2.heap[l]? = some (.loop rr) := hk2.same l _ hrr rfl
          have it12 : It lo1 hi1 W2 (.func (.func g1) #[] lb1) ys := it1.mid (Mid.below (hb.trans hb2) (by omega))
          refine range_itN hrr2 it12 rfl rfl (by omega)
            (fun pre2 W'' => L3 s w6 (s + 1) s (s + 1 + 1) pre2 [x] [] W'' ∧ Below s W' W'' ∧ KeepsFrom w7.heap.size W' W'')
            (OwnFrom.and (fun pre2 X Y row h hg hr => h.turn (hi := W2.heap.size) (Nat.le_trans hsz hb2.size) hg hr hsw) (OwnFrom.and (ownFrom_below hsz (Nat.le_trans hsz hb2.size)) (ownFrom_keepsFrom hb2.size)))
            ⟨?i0, hb2, hk2.from _⟩ ?b₁ ?assign2 ?body2 ?done2
          case assign2 =>
            intro l2 y W'' K hK
            gi_wp2
            exact hK
          case body2 =>
            rintro l2 pre2 y W'' ⟨⟨u1, u2, u3, e1, e2, e3, p1, p2, p3, hq, hbq⟩, hbw, hkw⟩ hlt2
            have p1' := p1
            unfold Pr at p1'
            obtain ⟨ad2, cap2, rfl⟩ := ownsRow_slice p1'
            have hd1 := e1.cell
            have hsz2 : s ≤ W''.heap.size := Nat.le_trans hsw hbq.size
            gi_wp2_with (gi_at_builtin; refine wpListIn_app_at _ rfl _ _ rfl s _ _ _ rfl (World.ownsRow.alloc p1' _) ⟨W''.heap.size, 0, none⟩ y.1 y.2 rfl (two_new_cells _ _ _ _) (by omega) (by simp; omega) ?_; intro v' w1'' hown' hgrow hat; obtain ⟨g'', cap'', rfl⟩ := ownsRow_succ hown'; obtain ⟨hd2, hk3, hb3, hL3, -⟩ := app3 (x := y) hsw (by omega) (by omega) e1 e2 e3 p1 p2 p3 hq hbq hown' hgrow hat; have hd3 := hd2.cell; have hd4 := hd2.frozen)
            exact ⟨hk3.from _, Mid.below hb3 (by omega), hL3, hbw.trans hb3, hkw.trans (hk3.from _)⟩
          case done2 =>
            rintro W'' ⟨hL3, hbw, hkw⟩
            gi_wp2
            exact ⟨hkw, Mid.below hbw (by omega), by rw [T1_cons (by simp)]; exact hL3.swap12, by simp; omega⟩
          case i0 =>
            rw [T1_nil] at hL2
            exact hL2.swap12
        · rw [T1_cons hpre] at r2
          have hpp : 1 ≤ pre.length := by
            rcases Nat.eq_zero_or_pos pre.length with h | h
            · exact absurd (List.eq_nil_of_length_eq_zero h) hpre
            · exact h
          have hq : ¬ 2 * (pre.length : Int) + 2 = 2 := by omega
          gi_wp2_with (gi_at_builtin; refine wpListIn_app_at _ rfl _ _ rfl s _ _ _ rfl (World.ownsRow.alloc r1' _) ⟨W'.heap.size, 0, none⟩ x.1 x.2 rfl (two_new_cells _ _ _ _) (by omega) (by simp; omega) ?_; intro v' w1' hown' hgrow hat; obtain ⟨g', cap', rfl⟩ := ownsRow_succ hown'; obtain ⟨hv1, hk2, hb2, hL2, hbx⟩ := app3 (x := x) hsw (Nat.le_refl _) (by omega) a1 a2 a3 r1 r2 r3 hp hb hown' hgrow hat; have hc2 := hv1.cell; have hf2 := hv1.frozen)
          exact ⟨hk2.from _, Mid.below hb2 (by omega), by rw [T1_cons (by simp)]; exact hL2, by simp; omega⟩
      · have hpe : pre.length = m := by omega
        gi_wp2
        refine ⟨KeepsFrom.refl _ _, ⟨⟨_, v2, v3, a1, a2, a3, by simpa using r1, ?_, r3, hp, hb⟩, rfl, by simp; omega⟩⟩
        rw [T2_of hpe]
        exact r2
    case doneL1 =>
      rintro D W' hD ⟨hL, hpl⟩ hK
      refine q1 D W' ⟨?_, by omega, Marks.cons (fun _ h => by cases h) hK⟩
      rw [List.take_of_length_le hpl]
      rw [T1_all] at hL
      rw [T2_all hpl]
      exact hL
    case stopL1 =>
      rintro D c pre W' k hD rfl ⟨hL, rfl, hpl⟩ hK
      refine wpIn_exit (q2 D W' ⟨?_, by omega, Marks.cons (fun _ h => by cases h) hK⟩)
      have e : (ys.take k).dropLast = ys.take m := by
        rw [List.dropLast_eq_take, List.take_take, hpl]
        congr 1
        simp at hpl; omega
      rw [e] at hL
      exact hL
  case rest1 =>
  rintro D1 w8 ⟨hL8, hD1, hM8⟩
  have hb8 : Below s w6 w8 := by obtain ⟨_, _, _, _, _, _, _, _, _, _, hb⟩ := hL8; exact hb
  have cT8 := (boxed_below bT (hbs _ hb8)).cell
  have it18 : It lo1 hi1 w8 (.func (.func g1) #[] lb1) ys := it1.mid (Mid.below hb8 (by omega))
  have hD8 : D1 < w8.heap.size := lt_of_heap (hM8 D1 (by simp))
  have hz8 : s ≤ w8.heap.size := Nat.le_trans hsw hb8.size
  clear cT7 hL0 hb7 it17 hz7
  go_wp2
  refine range_meet (n := 6) (id := 4) (fun D W' => L3 s w6 (s + 1 + 1) (s + 1) s ys (T2 m ys) (ys.take m) W' ∧ w8.heap.size ≤ D ∧ Marks W' [D, D1]) ?loop3 ?hx3 ?rest3
  case hx3 =>
    intro a' w' h
    exact h
  case loop3 =>
    intro Q2 q1 q2
    refine range_it it18 rfl rfl (by omega)
      (fun pre W' => L3 s w6 (s + 1 + 1) (s + 1) s pre (T2 m ys) (ys.take m) W' ∧ Marks W' [D1])
      (fun _ _ _ => False)
      (fun pre X Y row h hg hr => ⟨h.1.turn (hi := w8.heap.size) hz8 hg hr hsw, h.2.turn (hi := w8.heap.size) hg (fun r e => (hr r e).1) (by simpa using hD8)⟩)
      (fun _ _ _ _ _ hs _ _ => hs)
      ⟨hL8.swap13, hM8⟩ ?a₁L3 ?assignL3 ?bodyL3 ?doneL3 ?stopL3
    case assignL3 =>
      intro l x W' K hK
      gi_wp2
      exact hK
    case bodyL3 =>
      rintro l pre x W' hl - ⟨⟨v1, v2, v3, a1, a2, a3, r1, r2, r3, hp, hb⟩, hM⟩ hlt
      have r1' := r1
      unfold Pr at r1'
      obtain ⟨ad1, cap1, rfl⟩ := ownsRow_slice r1'
      have hc1 := a1.cell
      have hsz : s ≤ W'.heap.size := Nat.le_trans hsw hb.size
      gi_wp2_with (gi_at_builtin; refine wpListIn_app_at _ rfl _ _ rfl s _ _ _ rfl (World.ownsRow.alloc r1' _) ⟨W'.heap.size, 0, none⟩ x.1 x.2 rfl (two_new_cells _ _ _ _) (by omega) (by simp; omega) ?_; intro v' w1' hown' hgrow hat; obtain ⟨g', cap', rfl⟩ := ownsRow_succ hown'; obtain ⟨hv1, hk2, hb2, hL2, -⟩ := app3 (x := x) hsw (by omega) (by omega) a1 a2 a3 r1 r2 r3 hp hb hown' hgrow hat; have hc2 := hv1.cell; have hf2 := hv1.frozen)
      exact ⟨hk2.from _, Mid.below hb2 (by omega), hL2, hM.keeps hk2⟩
    case doneL3 =>
      rintro D W' hD ⟨hL, hM⟩ hK
      exact q1 D W' ⟨hL, hD, hM.cons hK⟩
    case stopL3 =>
      rintro D c pre W' k _ _ h _
      exact h.elim
  case rest3 =>
  rintro D3 w9 ⟨hL9, hD3, hM9⟩
  obtain ⟨v3, v2, v1, a3, a2, a1, r3, r2, r1, hp, hb9⟩ := hL9
  replace own9 := own9.below (hbs _ hb9)
  have s9 := s6.call (hbs _ hb9)
  obtain ⟨c3, f3, zz3, c1, f1, zz1, c2, f2, zz2, -⟩ := s9.rules
  obtain ⟨a9', cap9', hv9, row9, hc9, hm9⟩ := own9.rowN (n := 2 * ys.length) (flat_len ys)
  simp only [Value.slice.injEq, true_and] at hv9
  obtain ⟨rfl, rfl⟩ := hv9
  unfold maxLen at hm9
  have hk1 : (ys.take m).length = min m ys.length := List.length_take
  obtain ⟨K, hK⟩ : ∃ K, min m ys.length = K := ⟨_, rfl⟩
  rw [hK] at hk1
  have HK1 : Hid ((ys.take m).length = K) := hk1
  unfold Pr at r1 r2 r3
  rw [hk1] at r1
  obtain ⟨b1, d1, hv1⟩ := ownsRow_slice r1
  obtain ⟨b2, d2, hv2⟩ := ownsRow_slice r2
  obtain ⟨b3, d3, hv3⟩ := ownsRow_slice r3
  have o1 : Own w9 s v1 (flat (ys.take m)) := by unfold Own; rw [flat_len, hk1]; exact r1
  have o2 : Own w9 s v2 (flat (T2 m ys)) := by unfold Own; rw [flat_len]; exact r2
  have o3 : Own w9 s v3 (flat ys) := by unfold Own; rw [flat_len]; exact r3
  subst hv1 hv2 hv3
  clear r1 r2 r3 hp hk1 cT8
  have e1 := a1.cell
  have e2 := a2.cell
  have e3 := a3.cell
  go_upto_region 24 with fail
  go_cut [128] from 89 to 128 (fun x wx => x = .bool false ∧ ∃ nq, wx = w9.drewN nq)
  case first =>
    have hKN : K ≤ ys.length := by omega
    have hKN1 : ¬ ys.length < K := by omega
    have hKN2 : ¬ 2 * (ys.length : Int) < 2 * (K : Int) := by omega
    have hKN3 : decide (2 * (ys.length : Int) < 2 * (K : Int)) = false := decide_eq_false hKN2
    have row1 := o1.rowN (n := 2 * K) (by rw [flat_len]; exact congrArg (2 * ·) HK1.out)
    obtain ⟨a', cap', hv', row1, -, -⟩ := row1
    simp only [Value.slice.injEq, true_and] at hv'
    obtain ⟨rfl, rfl⟩ := hv'
    obtain ⟨a', cap', hv', row3, -, -⟩ := o3.rowN (n := 2 * ys.length) (flat_len ys)
    simp only [Value.slice.injEq, true_and] at hv'
    obtain ⟨rfl, rfl⟩ := hv'
    have hsl := slice_front (a := a9) (len := 2 * ys.length) (cap := cap9) (k := 2 * K) (h := 2 * (K : Int)) (by omega) (by omega)
    have row9f := row9.front (k := 2 * K) (by omega)
    have HE : Hid (flat (ys.take m) = (flat ys).take (2 * K)) := by
      unfold Hid
      rw [flat_take, ← hK]
      by_cases hmn : m ≤ ys.length
      · rw [Nat.min_eq_left hmn]
      · rw [Nat.min_eq_right (by omega), List.take_of_length_le (by omega), List.take_of_length_le (by omega)]
    have hq1 : (if (ys.length : Int) < (m : Int) then 2 * (ys.length : Int) else 2 * (m : Int)) = 2 * (K : Int) := by split <;> omega
    have hq2 : (if ys.length < m then 2 * (ys.length : Int) else 2 * (m : Int)) = 2 * (K : Int) := by split <;> omega
    have hq3 : (if 2 * (ys.length : Int) < 2 * (m : Int) then 2 * (ys.length : Int) else 2 * (m : Int)) = 2 * (K : Int) := by split <;> omega
    have hK0 : m = 0 → K = 0 := by omega
    clear o1 o3 own9 hK
    by_cases hm0 : m = 0
    · obtain rfl := hK0 hm0
      subst hm0
      clear hq1 hq2 hq3 hKN hKN1 hKN2 hKN3 hK0
      have hz1 : ¬ 2 * (ys.length : Int) < 0 := by omega
      have hz2 : decide (2 * (ys.length : Int) < 0) = false := decide_eq_false hz1
      have hz3 : ¬ (ys.length : Int) < 0 := by omega
      have hz4 : decide ((ys.length : Int) < 0) = false := decide_eq_false hz3
      refine wp_region_quiet_lit (by kernel_rfl) (by kernel_rfl) ?_
      repeat (go_big_quiet_step ((exact same_quiet row3 row9 rfl)))
      repeat (go_big_quiet_step ((exact same_quiet row1 row9f HE.out)))
      refine wpQuiet_nil ?_
      rintro _ ⟨nq, rfl⟩
      refine (show ∀ a' w', Met _ a' w' → _ from by assumption) _ _ ?_
      go_meet
      exact ⟨rfl, _, rfl⟩
    · have hT := T2_pos (ys := ys) (show 0 < m by omega)
      rw [hT] at o2
      obtain ⟨a', cap', hv', row2, -, -⟩ := o2.rowN (n := 2 * ys.length) (flat_len ys)
      rw [hT] at e2
      simp only [Value.slice.injEq, true_and] at hv'
      obtain ⟨rfl, rfl⟩ := hv'
      have hmp : 0 < m := by omega
      clear hT hm0 o2 hK0
      refine wp_region_quiet_lit (by kernel_rfl) (by kernel_rfl) ?_
      repeat (go_big_quiet_step ((exact same_quiet row3 row9 rfl)))
      repeat (go_big_quiet_step ((exact same_quiet row1 row9f HE.out)))
      repeat (go_big_quiet_step ((exact same_quiet row2 row9 rfl)))
      refine wpQuiet_nil ?_
      rintro _ ⟨nq, rfl⟩
      refine (show ∀ a' w', Met _ a' w' → _ from by assumption) _ _ ?_
      go_meet
      exact ⟨rfl, _, rfl⟩
  case rest =>
  obtain ⟨rfl, nq, rfl⟩ := hcut
  have s10 := s9.call (dbel w9 nq)
  have hb10 : Below w6.heap.size w6 (w9.drewN nq) := (hbs _ hb9).trans ((dbel w9 nq).mono (hbs _ hb9).size)
  have hM10 := hM9.call (dbel w9 nq)
  replace it2 := it2.later hb10
  have hz9 : (w9.drewN nq).heap.size = w9.heap.size := rfl
  have hD9 : D3 < w9.heap.size := lt_of_heap (hM9 D3 (by simp))
  have hD91 : D1 < w9.heap.size := by omega
  have hz10 := hb10.size
  have hW6 := s6.size
  clear c1 f1 c2 f2 c3 f3 zz1 zz2 zz3 e1 e2 e3 a1 a2 a3 o1 o2 o3 own9 row9 hm9 hc9 hL8 hM8 it18 HK1 hK
  obtain ⟨c3, f3, zz3, c1, f1, zz1, c2, f2, zz2, -⟩ := s10.rules
  generalize w9.drewN nq = w10 at *
  go_wp2_with fail
  refine (spots_any h w c kh kw sh sw tp lf bt rt m _).mono ?_
  rintro e w11 ⟨⟨v20, rfl, own20⟩, hb11⟩
  rw [HZ.out] at own20
  have s11 := s10.call hb11
  have hM11 := hM10.call hb11
  replace it2 := it2.later hb11
  have hz11 := hb11.size
  clear c1 f1 c2 f2 c3 f3 zz1 zz2 zz3 hb11
  obtain ⟨c3, f3, zz3, -⟩ := s11.rules
  have hk2 : (zs.take m).length = min m zs.length := List.length_take
  obtain ⟨Kz, hKz⟩ : ∃ K, min m zs.length = K := ⟨_, rfl⟩
  obtain ⟨a20, cap20, hv20, -⟩ := own20.rowN (n := 2 * Kz) (by rw [flat_len, hk2, hKz])
  subst hv20
  clear hk2 own20
  go_wp2
  obtain ⟨p, hp⟩ : ∃ p, w11.heap.size = p := ⟨_, rfl⟩
  have b40 : Boxed ((w11.alloc (.cells #[.int .i64 0] 3)).alloc (.cells #[.int .i64 0] 3)) p 3 (.int .i64 0) := by
    subst hp
    exact (Boxed.new w11 _ _).alloc _
  have b50 : Boxed ((w11.alloc (.cells #[.int .i64 0] 3)).alloc (.cells #[.int .i64 0] 3)) (p + 1) 3 (.int .i64 0) := by
    subst hp
    have := Boxed.new (w11.alloc (.cells #[.int .i64 0] 3)) 3 (.int .i64 0)
    rw [World.size_alloc] at this
    exact this
  have hb12 : Below p w11 ((w11.alloc (.cells #[.int .i64 0] 3)).alloc (.cells #[.int .i64 0] 3)) := by
    subst hp
    exact ((Below.refl _ _).alloc (Nat.le_refl _) _).alloc (by simp) _
  have hz12 : ((w11.alloc (.cells #[.int .i64 0] 3)).alloc (.cells #[.int .i64 0] 3)).heap.size = p + 2 := by simp [hp]
  have hps : ∀ X, Below p w11 X → Below w11.heap.size w11 X := fun X h => by rw [hp]; exact h
  generalize (w11.alloc (.cells #[.int .i64 0] 3)).alloc (.cells #[.int .i64 0] 3) = w12 at *
  have hM12 := hM11.call (hps _ hb12)
  have it212 := it2.later (hps _ hb12)
  simp only [hp]
  obtain ⟨C, hC⟩ : ∃ C, min zs.length 100 = C := ⟨_, rfl⟩
  have hDp : D3 < p ∧ D1 < p ∧ D1 < D3 := ⟨by omega, by omega, by omega⟩
  have hhp : hi2 ≤ p := by omega
  have hpw : p ≤ w11.heap.size := by omega
  clear c3 f3 zz3
  refine range_meet (n := 6) (id := 6) (fun D W' => Boxed W' p 3 (.int .i64 C) ∧ Boxed W' (p + 1) 3 (.int .i64 0) ∧ Below p w11 W' ∧ p + 2 ≤ D ∧ Marks W' [D, D3, D1]) ?loop4 ?hx4 ?rest4
  case hx4 =>
    intro a' w' h
    exact h
  case loop4 =>
    intro Q2 q1 q2
    refine range_it it212 rfl rfl (by omega)
      (fun pre W' => Boxed W' p 3 (.int .i64 (pre.length : Int)) ∧ Boxed W' (p + 1) 3 (.int .i64 0) ∧ Below p w11 W' ∧ Marks W' [D3, D1] ∧ pre.length < 100)
      (fun c pre W' => Boxed W' p 3 (.int .i64 100) ∧ Boxed W' (p + 1) 3 (.int .i64 0) ∧ Below p w11 W' ∧ Marks W' [D3, D1] ∧ c = .exit 6 ∧ pre.length = 100)
      (fun pre X Y row h hg hr => ⟨Boxed.turn h.1 hg (fun r e => (hr r e).2), Boxed.turn h.2.1 hg (fun r e => (hr r e).2), h.2.2.1.grown hg (Nat.le_trans hpw h.2.2.1.size) (fun r e => by have := (hr r e).1; omega), h.2.2.2.1.turn (hi := p) hg (fun r e => by have := (hr r e).1; omega) (by simp; omega), h.2.2.2.2⟩)
      (fun c pre X Y row h hg hr => ⟨Boxed.turn h.1 hg (fun r e => (hr r e).2), Boxed.turn h.2.1 hg (fun r e => (hr r e).2), h.2.2.1.grown hg (Nat.le_trans hpw h.2.2.1.size) (fun r e => by have := (hr r e).1; omega), h.2.2.2.1.turn (hi := p) hg (fun r e => by have := (hr r e).1; omega) (by simp; omega), h.2.2.2.2⟩)
      ⟨b40, b50, hb12, hM12, by simp⟩ ?a₁L4 ?assignL4 ?bodyL4 ?doneL4 ?stopL4
    case assignL4 =>
      intro l x W' K hK
      gi_wp2
      exact hK
    case bodyL4 =>
      rintro l pre x W' hl - ⟨b4, b5, hb, hM, hlt⟩ hlt2
      have hc := b4.cell
      have hf := b4.frozen
      by_cases h99 : pre.length + 1 < 100
      · have h98 : ¬ (100 : Int) ≤ (pre.length : Int) + 1 := by omega
        gi_wp2
        exact ⟨(KeepsOthers.setCell _ _ _).from _, Mid.set _ (.inr hhp), by simpa using b4.set (.int .i64 ((pre.length : Int) + 1)), b5.other (by omega) _, hb.setCell (p := ⟨p, 0, none⟩) (Nat.le_refl _) _, hM.keeps (KeepsOthers.setCell _ _ _), by simp; omega⟩
      · have h98 : (pre.length : Int) = 99 := by omega
        have h97 : pre.length = 99 := by omega
        gi_wp2
        exact ⟨(KeepsOthers.setCell _ _ _).from _, b4.set _, b5.other (by omega) _, hb.setCell (p := ⟨p, 0, none⟩) (Nat.le_refl _) _, hM.keeps (KeepsOthers.setCell _ _ _), rfl, by simp; omega⟩
    case doneL4 =>
      rintro D W' hD ⟨b4, b5, hb, hM, hlt⟩ hK
      exact q1 D W' ⟨by rw [show C = zs.length by omega]; exact b4, b5, hb, by omega, hM.cons hK⟩
    case stopL4 =>
      rintro D c pre W' k hD rfl ⟨b4, b5, hb, hM, rfl, hlt⟩ hK
      rw [List.length_take] at hlt
      exact wpIn_exit (q2 D W' ⟨by rw [show C = 100 by omega]; exact b4, b5, hb, by omega, hM.cons hK⟩)
  case rest4 =>
  rintro D4 w13 ⟨b4, b5, hb13, hD4, hM13⟩
  have it213 := it2.later (hps _ hb13)
  have hz13 : p + 2 ≤ w13.heap.size := by have := b5.lt; omega
  have hD43 : D4 < w13.heap.size := lt_of_heap (hM13 D4 (by simp))
  go_wp2
  refine range_meet (n := 6) (id := 8) (fun D W' => Boxed W' (p + 1) 3 (.int .i64 C) ∧ Boxed W' p 3 (.int .i64 C) ∧ Below p w11 W' ∧ w13.heap.size ≤ D ∧ Marks W' [D, D4, D3, D1]) ?loop5 ?hx5 ?rest5
  case hx5 =>
    intro a' w' h
    exact h
  case loop5 =>
    intro Q2 q1 q2
    refine range_it it213 rfl rfl (by omega)
      (fun pre W' => Boxed W' (p + 1) 3 (.int .i64 (pre.length : Int)) ∧ Boxed W' p 3 (.int .i64 C) ∧ Below p w11 W' ∧ Marks W' [D4, D3, D1] ∧ pre.length < 100)
      (fun c pre W' => Boxed W' (p + 1) 3 (.int .i64 100) ∧ Boxed W' p 3 (.int .i64 C) ∧ Below p w11 W' ∧ Marks W' [D4, D3, D1] ∧ c = .exit 8 ∧ pre.length = 100)
      (fun pre X Y row h hg hr => ⟨Boxed.turn h.1 hg (fun r e => (hr r e).2), Boxed.turn h.2.1 hg (fun r e => (hr r e).2), h.2.2.1.grown hg (Nat.le_trans hpw h.2.2.1.size) (fun r e => by have := (hr r e).1; omega), h.2.2.2.1.turn (hi := w13.heap.size) hg (fun r e => (hr r e).1) (by simp; omega), h.2.2.2.2⟩)
      (fun c pre X Y row h hg hr => ⟨Boxed.turn h.1 hg (fun r e => (hr r e).2), Boxed.turn h.2.1 hg (fun r e => (hr r e).2), h.2.2.1.grown hg (Nat.le_trans hpw h.2.2.1.size) (fun r e => by have := (hr r e).1; omega), h.2.2.2.1.turn (hi := w13.heap.size) hg (fun r e => (hr r e).1) (by simp; omega), h.2.2.2.2⟩)
      ⟨b5, b4, hb13, hM13, by simp⟩ ?a₁L5 ?assignL5 ?bodyL5 ?doneL5 ?stopL5
    case assignL5 =>
      intro l x W' K hK
      gi_wp2
      exact hK
    case bodyL5 =>
      rintro l pre x W' hl - ⟨b4, b5, hb, hM, hlt⟩ hlt2
      have hc := b4.cell
      have hf := b4.frozen
      by_cases h99 : pre.length + 1 < 100
      · have h98 : ¬ (100 : Int) ≤ (pre.length : Int) + 1 := by omega
        gi_wp2
        exact ⟨(KeepsOthers.setCell _ _ _).from _, Mid.set _ (.inr (by omega)), by simpa using b4.set (.int .i64 ((pre.length : Int) + 1)), b5.other (by omega) _, hb.setCell (p := ⟨p + 1, 0, none⟩) (by simp) _, hM.keeps (KeepsOthers.setCell _ _ _), by simp; omega⟩
      · have h98 : (pre.length : Int) = 99 := by omega
        have h97 : pre.length = 99 := by omega
        gi_wp2
        exact ⟨(KeepsOthers.setCell _ _ _).from _, b4.set _, b5.other (by omega) _, hb.setCell (p := ⟨p + 1, 0, none⟩) (by simp) _, hM.keeps (KeepsOthers.setCell _ _ _), rfl, by simp; omega⟩
    case doneL5 =>
      rintro D W' hD ⟨b4, b5, hb, hM, hlt⟩ hK
      exact q1 D W' ⟨by rw [show C = zs.length by omega]; exact b4, b5, hb, hD, hM.cons hK⟩
    case stopL5 =>
      rintro D c pre W' k hD rfl ⟨b4, b5, hb, hM, rfl, hlt⟩ hK
      rw [List.length_take] at hlt
      exact wpIn_exit (q2 D W' ⟨by rw [show C = 100 by omega]; exact b4, b5, hb, hD, hM.cons hK⟩)
  case rest5 =>
  rintro D5 w14 ⟨b5', b4', hb14, hD5, hM14⟩
  have s14 := s11.call (hps _ hb14)
  obtain ⟨c3, f3, zz3, -⟩ := s14.rules
  have e4 := b4'.cell
  have e5 := b5'.cell
  have hq1 : (if (C : Int) < (m : Int) then (C : Int) else (m : Int)) = (Kz : Int) := by split <;> omega
  have hq2 : (if C < m then (C : Int) else (m : Int)) = (Kz : Int) := by split <;> omega
  go_wp2
  refine leave_marks (s := W.heap.size) [D5, D4, D3, D1] w14 hM14 (by simp; omega) (by simp; omega) (fun W' hW' => ?_) s14.size
  exact ⟨.bool true, by simp [results, Try.f6, go_sem], rfl, s14.below.trans hW'⟩
end Go.Proofs.Ytcgpeaamblanlaa
