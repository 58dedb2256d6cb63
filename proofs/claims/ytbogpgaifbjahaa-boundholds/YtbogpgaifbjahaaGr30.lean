/- What the small functions of package norm return, and those of the document. What sum of package plain returns. What alone of package plain returns: a model of one op. The reach of an op, by package norm and by the document; the document's sums of weights. What L1, Signed and Quick of package norm return. What Quick of package norm returns. -/
import Derived.Test.YtbogpgaifbjahaaGr09
import Derived.Test.YtbogpgaifbjahaaGr14
import Derived.Test.YtbogpgaifbjahaaGr20
import Derived.Test.YtbogpgaifbjahaaGr23
import Derived.Test.YtbogpgaifbjahaaGr29
/- What the small functions of package norm return, and those of the document. -/
namespace Go.Proofs.Ytbogpgaifbjahaa
open Go.ChangeShapes Go.WideShapes Go.ChangeAt Go.RowKit
set_option linter.unusedVariables false
/-! ### Sums of weights -/
set_option maxHeartbeats 2000000 in
theorem nsig_any (v : Value) (TL : List (Int × Int)) (W : World) (hT : TV W v TL) (hl : TL.length ≤ 512) (ht : ∀ t ∈ TL, -32768 ≤ t.1 ∧ t.1 ≤ 32767) :
    Calls Try.prog 62 #[v] W fun e w' => e = .returned (.tuple #[.int .i64 (upS TL), .int .i64 (dnS TL)]) ∧ Below W.heap.size W w' := by
  obtain ⟨va, vc, rfl, v1, v2, v3⟩ := hT
  obtain ⟨N, hN⟩ : ∃ N, TL.length = N := ⟨_, rfl⟩
  have HB : Hid (∀ n, _) := sg_take ht hl
  rw [hN] at v1 v3 hl ⊢
  have HV : Hid (0 < N → _) := v3
  have HT : Hid (∀ t ∈ TL, -32768 ≤ t.1 ∧ t.1 ≤ 32767) := ht
  have HN : Hid (TL.length = N) := hN
  unfold maxLen at v2
  clear ht v3 hN
  go_enter Try.func62, Try.ntmps62
  go_wp2
  go_loopw [2, 3, 9] (fun s t i wr => ∃ y : Nat, y ≤ N ∧ i = .int .i64 y ∧ s = .int .i64 (upS (TL.take y)) ∧ t = .int .i64 (dnS (TL.take y)) ∧ Below W.heap.size W wr) (fun _ _ i _ => N - (intOf i).toNat)
  case atStart => exact ⟨0, Nat.zero_le _, rfl, rfl, rfl, Below.refl _ _⟩
  case round =>
    obtain ⟨y, hy, rfl, rfl, rfl, hb⟩ := hrel
    obtain ⟨⟨s1, s2⟩, s3, s4⟩ := HB.out y
    by_cases hlt : y < N
    · obtain ⟨g, rfl, hc⟩ := HV.out (by omega)
      obtain ⟨q1, q2⟩ := TV.at hc (show y < TL.length by rw [HN.out]; exact hlt)
      obtain ⟨A1, A2, hA⟩ : ∃ A1 A2, TL.getD y (0, 0) = (A1, A2) := ⟨_, _, rfl⟩
      rw [hA] at q1 q2
      simp only at q1 q2
      have hmem : (A1, A2) ∈ TL := by
        rw [← hA, List.getD_eq_getElem?_getD, List.getElem?_eq_getElem (by rw [HN.out]; exact hlt)]
        exact List.getElem_mem _
      obtain ⟨w1, w2⟩ := HT.out _ hmem
      have hU := upS_take (show y < TL.length by rw [HN.out]; exact hlt) hA
      have hD := dnS_take (show y < TL.length by rw [HN.out]; exact hlt) hA
      have p1 := (hb.cell (World.block_lt_of_cell? W _ q1)).trans q1
      have p2 := (hb.cell (World.block_lt_of_cell? W _ q2)).trans q2
      simp only at w1 w2
      obtain ⟨su, hsu⟩ : ∃ su, upS (TL.take y) = su := ⟨_, rfl⟩
      obtain ⟨sd, hsd⟩ : ∃ sd, dnS (TL.take y) = sd := ⟨_, rfl⟩
      rw [hsu] at hU s1 s2 ⊢
      rw [hsd] at hD s3 s4 ⊢
      have HU : Hid (upS (TL.take (y + 1)) = su + upW A1) := hU
      have HD : Hid (dnS (TL.take (y + 1)) = sd + dnW A1) := hD
      clear hU hD q1 q2 hsu hsd hmem hc hA HV HB HT
      by_cases pos : 0 < A1
      · have neg' : ¬ A1 < 0 := by omega
        have e1 : Hid (upW A1 = A1) := by unfold Hid upW; rw [if_pos pos]
        have e2 : Hid (dnW A1 = 0) := by unfold Hid dnW; rw [if_pos pos]
        go_wp2
        go_roundw
        case rel => exact ⟨y + 1, by omega, by go_num, by (rw [HU.out, e1.out] <;> go_num), by (rw [HD.out, e2.out] <;> go_num), btr hb (bal _ _)⟩
        case measure => simp [intOf]; omega
      · have e1 : Hid (upW A1 = 0) := by unfold Hid upW; rw [if_neg pos]
        have e2 : Hid (dnW A1 = A1) := by unfold Hid dnW; rw [if_neg pos]
        by_cases neg : A1 < 0
        · go_wp2
          go_roundw
          case rel => exact ⟨y + 1, by omega, by go_num, by (rw [HU.out, e1.out] <;> go_num), by (rw [HD.out, e2.out] <;> go_num), btr hb (bal _ _)⟩
          case measure => simp [intOf]; omega
        · obtain rfl : A1 = 0 := by omega
          clear neg pos
          go_wp2
          go_roundw
          case rel => exact ⟨y + 1, by omega, by go_num, by (rw [HU.out, e1.out] <;> go_num), by (rw [HD.out, e2.out] <;> go_num), btr hb (bal _ _)⟩
          case measure => simp [intOf]; omega
    · obtain rfl : y = N := by omega
      have e1 : Hid (upS (TL.take y) = upS TL) := by unfold Hid; rw [← HN.out, List.take_length]
      have e2 : Hid (dnS (TL.take y) = dnS TL) := by unfold Hid; rw [← HN.out, List.take_length]
      clear HV
      rw [e1.out, e2.out]
      go_wp2
      go_ret2
      exact ⟨rfl, hb⟩
theorem nuns_any (v : Value) (TL : List (Int × Int)) (W : World) (hT : TV W v TL) (hl : TL.length ≤ 512) (ht : ∀ t ∈ TL, -32768 ≤ t.1 ∧ t.1 ≤ 32767) :
    Calls Try.prog 42 #[v] W fun e w' => e = .returned (.int .i64 (upS TL - dnS TL)) ∧ Below W.heap.size W w' := by
  obtain ⟨⟨s1, s2⟩, s3, s4⟩ := sg_all ht hl
  have HS : Hid _ := nsig_any v TL W hT hl ht
  obtain ⟨su, hsu⟩ : ∃ su, upS TL = su := ⟨_, rfl⟩
  obtain ⟨sd, hsd⟩ : ∃ sd, dnS TL = sd := ⟨_, rfl⟩
  rw [hsu] at HS s1 s2 ⊢
  rw [hsd] at HS s3 s4 ⊢
  clear hsu hsd hT ht hl
  go_enter Try.func42, Try.ntmps42
  go_wp2_with fail
  refine Calls.mono HS.out ?_
  rintro e w1 ⟨rfl, hb⟩
  go_wp2
  go_ret
  exact ⟨rfl, hb⟩
/-! ### Spans of values -/
def vaB (lo hi : Int) : Bool := decide (-128 ≤ lo ∧ lo ≤ hi ∧ hi ≤ 127)
theorem vaB_yes {lo hi : Int} (h : vaB lo hi = true) : -128 ≤ lo ∧ lo ≤ hi ∧ hi ≤ 127 := by simpa [vaB] using h
theorem nva_any (lo hi : Int) (W : World) :
    Calls Try.prog 41 #[.agg #[.int .i64 lo, .int .i64 hi]] W fun e w' => e = .returned (.bool (vaB lo hi)) ∧ Below W.heap.size W w' := by
  by_cases c1 : -128 ≤ lo
  · by_cases c2 : lo ≤ hi
    · by_cases c3 : hi ≤ 127
      · have HR : Hid (true = vaB lo hi) := by unfold Hid vaB; simp [c1, c2, c3]
        go_enter Try.func41, Try.ntmps41
        go_wp2
        go_ret
        exact ⟨retB HR.out, (Below.refl _ _).alloc (Nat.le_refl _) _⟩
      · have HR : Hid (false = vaB lo hi) := by unfold Hid vaB; simp [c3]
        go_enter Try.func41, Try.ntmps41
        go_wp2
        go_ret
        exact ⟨retB HR.out, (Below.refl _ _).alloc (Nat.le_refl _) _⟩
    · have HR : Hid (false = vaB lo hi) := by unfold Hid vaB; simp [c2]
      go_enter Try.func41, Try.ntmps41
      go_wp2
      go_ret
      exact ⟨retB HR.out, (Below.refl _ _).alloc (Nat.le_refl _) _⟩
  · have HR : Hid (false = vaB lo hi) := by unfold Hid vaB; simp [c1]
    go_enter Try.func41, Try.ntmps41
    go_wp2
    go_ret
    exact ⟨retB HR.out, (Below.refl _ _).alloc (Nat.le_refl _) _⟩
/-! ### The reach -/
/-- The greatest of four. -/
theorem max4 (x y z u M : Int) (h : mxI (mxI (mxI x y) z) u = M) : ∀ (W : World) (ts : Array TypeId) (t : TypeId), (Builtin.max_ ts t #[.int .i64 x, .int .i64 y, .int .i64 z, .int .i64 u]).run Try.prog W = .ok (.int .i64 M) W := by
  intro W ts t
  subst h
  simp [Builtin.max_, Builtin.max2, mxI]
  repeat' split
  all_goals first | rfl | omega
theorem max3 (x y z M : Int) (h : mxI (mxI x y) z = M) : ∀ (W : World) (ts : Array TypeId) (t : TypeId), (Builtin.max_ ts t #[.int .i64 x, .int .i64 y, .int .i64 z]).run Try.prog W = .ok (.int .i64 M) W := by
  intro W ts t
  subst h
  simp [Builtin.max_, Builtin.max2, mxI]
  repeat' split
  all_goals first | rfl | omega
set_option maxHeartbeats 1000000 in
theorem pads_any (kh kw sh sw tp lf bt rt : Int) (W : World) (htp : 0 ≤ tp ∧ tp ≤ 31) (hlf : 0 ≤ lf ∧ lf ≤ 31) (hbt : 0 ≤ bt ∧ bt ≤ 31) (hrt : 0 ≤ rt ∧ rt ≤ 31) :
    Calls Try.prog 63 #[.agg #[.int .i64 kh, .int .i64 kw, .int .i64 sh, .int .i64 sw, .int .i64 tp, .int .i64 lf, .int .i64 bt, .int .i64 rt]] W fun e w' => e = .returned (.bool (decide (0 < tp + lf + bt + rt))) ∧ Below W.heap.size W w' := by
  obtain ⟨M, hM⟩ : ∃ M, mxI (mxI (mxI tp lf) bt) rt = M := ⟨_, rfl⟩
  have hm := max4 tp lf bt rt M hM
  by_cases c : 0 < tp + lf + bt + rt
  · have hp : 0 < M := by rw [← hM]; unfold mxI; repeat' split
                          all_goals omega
    have HR : Hid (decide (0 < tp + lf + bt + rt) = true) := decide_eq_true c
    rw [HR.out]
    clear hM htp hlf hbt hrt c HR
    go_enter Try.func63, Try.ntmps63
    go_wp2
    go_ret
    exact ⟨rfl, (Below.refl _ _).alloc (Nat.le_refl _) _⟩
  · have hp : ¬ 0 < M := by rw [← hM]; unfold mxI; repeat' split
                            all_goals omega
    have HR : Hid (decide (0 < tp + lf + bt + rt) = false) := decide_eq_false c
    rw [HR.out]
    clear hM htp hlf hbt hrt c HR
    go_enter Try.func63, Try.ntmps63
    go_wp2
    go_ret
    exact ⟨rfl, (Below.refl _ _).alloc (Nat.le_refl _) _⟩
end Go.Proofs.Ytbogpgaifbjahaa

/- What sum of package plain returns. -/
namespace Go.Proofs.Ytbogpgaifbjahaa
open Go.ChangeShapes Go.WideShapes Go.ChangeAt Go.RowKit
set_option linter.unusedVariables false
/-! ### A sum -/
set_option maxHeartbeats 2000000 in
theorem sum_any (k a b m kh kw sh sw tp lf bt rt : Int) (wa : Option Addr) (lw wc : Nat) (ba : Option Addr) (lb bc : Nat) (sm ss um us z p lo hi h w c H V C : Int) (r : Nat) (W : World) (hr : W.heap[r]? = some (.cells #[.int .i64 k, .int .i64 a, .int .i64 b, .int .i64 m, .int .i64 kh, .int .i64 kw, .int .i64 sh, .int .i64 sw, .int .i64 tp, .int .i64 lf, .int .i64 bt, .int .i64 rt, .slice wa lw wc, .slice ba lb bc, .int .i64 sm, .int .i64 ss, .int .i64 um, .int .i64 us, .int .i64 z, .int .i64 p, .int .i64 lo, .int .i64 hi, .int .i64 h, .int .i64 w, .int .i64 c, .int .i64 H, .int .i64 V, .int .i64 C] 95 (0, 0))) (v : Value) (TL : List (Int × Int)) (hT : TV W v TL) (ad : Option Addr) (n cap : Nat) (xs : List Int) (hX : IRow .i8 W ad n cap xs) (hp : I8 p) (hl : TL.length ≤ 512) (ht : ∀ t ∈ TL, (-32768 ≤ t.1 ∧ t.1 ≤ 32767) ∧ (t.2 = -1 ∨ (0 ≤ t.2 ∧ t.2 < (n : Int)))) :
    Calls Try.prog 61 #[.pointer (some ⟨r, 0, none⟩), v, .slice ad n cap] W fun e w' => e = .returned (.int .i64 (smV p xs TL)) ∧ Below W.heap.size W w' := by
  obtain ⟨va, vc, rfl, v1, v2, v3⟩ := hT
  have hrz := lt_of_heap hr
  obtain ⟨N, hN⟩ : ∃ N, TL.length = N := ⟨_, rfl⟩
  rw [hN] at v1 v3 hl ⊢
  have HV : Hid (0 < N → _) := v3
  have HR : Hid (W.heap[r]? = some (.cells #[.int .i64 k, .int .i64 a, .int .i64 b, .int .i64 m, .int .i64 kh, .int .i64 kw, .int .i64 sh, .int .i64 sw, .int .i64 tp, .int .i64 lf, .int .i64 bt, .int .i64 rt, .slice wa lw wc, .slice ba lb bc, .int .i64 sm, .int .i64 ss, .int .i64 um, .int .i64 us, .int .i64 z, .int .i64 p, .int .i64 lo, .int .i64 hi, .int .i64 h, .int .i64 w, .int .i64 c, .int .i64 H, .int .i64 V, .int .i64 C] 95 (0, 0))) := hr
  have HX : Hid (IRow .i8 W ad n cap xs) := hX
  have HT : Hid (∀ t ∈ TL, (-32768 ≤ t.1 ∧ t.1 ≤ 32767) ∧ (t.2 = -1 ∨ (0 ≤ t.2 ∧ t.2 < (n : Int)))) := ht
  have HN : Hid (TL.length = N) := hN
  have HP : Hid (I8 p) := hp
  unfold maxLen at v2
  clear hr hX ht v3 hN hp
  go_enter Try.func61, Try.ntmps61
  go_wp2
  go_loopw [7, 13] (fun s i wr => ∃ y : Nat, y ≤ N ∧ i = .int .i64 y ∧ s = .int .i64 (smV p xs (TL.take y)) ∧ Below W.heap.size W wr) (fun _ i _ => N - (intOf i).toNat)
  case atStart => exact ⟨0, Nat.zero_le _, rfl, rfl, Below.refl _ _⟩
  case round =>
    obtain ⟨y, hy, rfl, rfl, hb⟩ := hrel
    by_cases hlt : y < N
    · obtain ⟨g, rfl, hc⟩ := HV.out (by omega)
      obtain ⟨q1, q2⟩ := TV.at hc (show y < TL.length by rw [HN.out]; exact hlt)
      obtain ⟨A1, A2, hA⟩ : ∃ A1 A2, TL.getD y (0, 0) = (A1, A2) := ⟨_, _, rfl⟩
      rw [hA] at q1 q2
      simp only at q1 q2
      have hmem : (A1, A2) ∈ TL := by
        rw [← hA, List.getD_eq_getElem?_getD, List.getElem?_eq_getElem (by rw [HN.out]; exact hlt)]
        exact List.getElem_mem _
      obtain ⟨⟨w1, w2⟩, hat⟩ := HT.out _ hmem
      have hS := smV_take (p := p) (x := xs) (show y < TL.length by rw [HN.out]; exact hlt) hA
      have b1 := smV_bd HP.out HX.out.i8 (TL.take y) (take_mem (fun t ht => (HT.out t ht).1) y)
      have b2 := smT_bd HP.out HX.out.i8 (t := (A1, A2)) ⟨w1, w2⟩
      have hty : (TL.take y).length ≤ 512 := by rw [List.length_take]; omega
      have p1 := (hb.cell (World.block_lt_of_cell? W _ q1)).trans q1
      have p2 := (hb.cell (World.block_lt_of_cell? W _ q2)).trans q2
      obtain ⟨c1, f1, z1⟩ := cells_at ((hb.block r hrz).trans HR.out)
      simp only at w1 w2 hat
      obtain ⟨sv, hsv⟩ : ∃ sv, smV p xs (TL.take y) = sv := ⟨_, rfl⟩
      obtain ⟨tv, htv⟩ : ∃ tv, smT p xs (A1, A2) = tv := ⟨_, rfl⟩
      rw [hsv] at b1 hS ⊢
      rw [htv] at b2 hS
      have b1' : -2147483648 ≤ sv ∧ sv ≤ 2147483648 := by omega
      have HS : Hid (smV p xs (TL.take (y + 1)) = sv + tv) := hS
      clear hS b1 q1 q2 hsv hmem hc hA HV
      by_cases neg : A2 < 0
      · have e2 : tv = A1 * p := by rw [← htv]; unfold smT; rw [if_pos neg]
        have neg' : ¬ 0 ≤ A2 := by omega
        clear htv hat
        subst e2
        obtain ⟨pp, hpp⟩ : ∃ pp, A1 * p = pp := ⟨_, rfl⟩
        rw [hpp] at b2 HS
        go_wp2
        go_roundw
        case rel => exact ⟨y + 1, by omega, by go_num, by rw [HS.out], btr hb (bal _ _)⟩
        case measure => simp [intOf]; omega
      · obtain ⟨j, rfl⟩ : ∃ j : Nat, A2 = (j : Int) := ⟨A2.toNat, by omega⟩
        have hj : j < n := by omega
        obtain ⟨x, u, rfl, hu, hw8, hz, -⟩ := (HX.out.below hb).at hj
        obtain ⟨u1, u2⟩ := wf_i8 hw8
        have hu2 : ∀ o, (wr.alloc o).cell? (x.add j) = some (.int .i8 u) := fun o => ((bal wr o).cell (World.block_lt_of_cell? wr _ hu)).trans hu
        have e2 : tv = A1 * u := by rw [← htv]; unfold smT; simp only; rw [if_neg (by omega), Int.toNat_natCast, List.getD_eq_getElem?_getD, hz]; rfl
        clear htv hat hz hw8 neg
        subst e2
        obtain ⟨pp, hpp⟩ : ∃ pp, A1 * u = pp := ⟨_, rfl⟩
        rw [hpp] at b2 HS
        go_wp2
        go_roundw
        case rel => exact ⟨y + 1, by omega, by go_num, by rw [HS.out], btr hb (bal _ _)⟩
        case measure => simp [intOf]; omega
    · obtain rfl : y = N := by omega
      have e : Hid (smV p xs (TL.take y) = smV p xs TL) := by unfold Hid; rw [← HN.out, List.take_length]
      clear HV
      go_wp2
      go_ret
      exact ⟨ret1 e.out, hb⟩
end Go.Proofs.Ytbogpgaifbjahaa

/- What alone of package plain returns: a model of one op. -/
namespace Go.Proofs.Ytbogpgaifbjahaa
open Go.ChangeShapes Go.WideShapes Go.ChangeAt Go.RowKit
set_option linter.unusedVariables false
/-! ### The op alone -/
theorem lcells {w : World} {B : Nat} {cs : Array Value} {T : TypeId} (h : w.heap[B]? = some (.cells cs T (0, 0))) {l : List Value} (hl : ∀ (q : Nat) (v : Value), l[q]? = some v → cs[q]? = some v) : ∀ (q : Nat) (v : Value), l[q]? = some v → w.cell? ((⟨B, 0, none⟩ : Addr).add q) = some v := fun q v hq => by
  rw [Addr.add_lit, Nat.zero_add, (cells_at h).1]
  exact hl q v hq
theorem fget (l r : List Value) : ∀ (q : Nat) (v : Value), l[q]? = some v → (l ++ r).toArray[q]? = some v := fun q v hq => by
  have := (List.getElem?_eq_some_iff.1 hq).1
  rw [List.getElem?_toArray, List.getElem?_append_left this]
  exact hq
/-- An operation that yields a value and leaves a world, both said. -/
theorem wpList_run1 {P : Program} {ops : Array Oper} {rest : List Oper} {o : Oper} {a : Act} {w : World} {Q : Exit → Act → World → Prop} (hg : o.guard = none) (dst : Option Tmp) (hdst : o.dst = dst)
    (v : Value) (w' : World) (hrun : (execOp a.eval o).run P w = .ok (.value v) w') (h : wpList P ops Q rest (a.put dst v) w') : wpList P ops Q (o :: rest) a w := by
  subst hdst
  refine wpList_plain hg fun K hK => ?_
  unfold Oper.wp
  rw [hrun, Oper.upon_value]
  exact hK _ _ h
theorem wp_run1 {P : Program} {o : Oper} {a : Act} {w w' : World} {v : Value} {K : Act → World → Prop} {Q : Exit → Act → World → Prop} (hrun : (execOp a.eval o).run P w = .ok (.value v) w') (h : K (a.put o.dst v) w') : o.wp P a w K Q := by
  unfold Oper.wp
  rw [hrun, Oper.upon_value]
  exact h
theorem stepW {P : Program} {ops : Array Oper} {md : Region.Mode} {C : World → Prop} {Q : Exit → Act → World → Prop} (i : Nat) {o : Oper} {fuel : Nat} {listed : Array Bool} {a : Act} {w : World} (hC : C w) (hr : Region.ready md ops listed = [i]) (ho : ops[i]? = some o) (hg : o.guard = none)
    (h : ∀ K : Act → World → Prop, (∀ a w, wpAnyC Fence.wide 3 P md ops C Q fuel (listed.setIfInBounds i true) a w → K a w) → o.wp P a w K Q) : wpAnyC Fence.wide 3 P md ops C Q (fuel + 1) listed a w :=
  stepC i hC hr ho fun K hK => step_wp hg (h K hK)
theorem stepR {P : Program} {ops : Array Oper} {md : Region.Mode} {C : World → Prop} {Q : Exit → Act → World → Prop} (i : Nat) {o : Oper} {fuel : Nat} {listed : Array Bool} {a : Act} {w : World} (hC : C w) (hr : Region.ready md ops listed = [i]) (ho : ops[i]? = some o) (hg : o.guard = none)
    (v : Value) (w' : World) (hrun : (execOp a.eval o).run P w = .ok (.value v) w') (h : wpAnyC Fence.wide 3 P md ops C Q fuel (listed.setIfInBounds i true) (a.put o.dst v) w') : wpAnyC Fence.wide 3 P md ops C Q (fuel + 1) listed a w :=
  stepW i hC hr ho hg fun K hK => wp_run1 hrun (hK _ _ h)
/-- A call. -/
theorem stepK {P : Program} {ops : Array Oper} {md : Region.Mode} {C : World → Prop} {Q : Exit → Act → World → Prop} (i : Nat) {o : Oper} {fuel : Nat} {listed : Array Bool} {a : Act} {w : World} (hC : C w) (hr : Region.ready md ops listed = [i]) (ho : ops[i]? = some o) (hg : o.guard = none)
    (f : FuncId) (args : Array Value) (hrun : (execOp a.eval o).run P w = .ok (.enter f args) w) {R : Ending → World → Prop} (hcall : Calls P f args w R)
    (h : ∀ e w', R e w' → ∃ v, e = .returned v ∧ wpAnyC Fence.wide 3 P md ops C Q fuel (listed.setIfInBounds i true) (a.put o.dst v) w') : wpAnyC Fence.wide 3 P md ops C Q (fuel + 1) listed a w :=
  stepW i hC hr ho hg fun K hK => by
    unfold Oper.wp
    rw [hrun]
    refine Calls.mono hcall fun e w' he => ?_
    obtain ⟨v, rfl, hv⟩ := h e w' he
    exact hK _ _ hv
theorem stepS {P : Program} {ops : Array Oper} {md : Region.Mode} {C : World → Prop} {Q : Exit → Act → World → Prop} (i : Nat) {o : Oper} {fuel : Nat} {listed : Array Bool} {a : Act} {w : World} (hC : C w) (hr : Region.ready md ops listed = [i]) (ho : ops[i]? = some o) (hg : o.guard = none)
    (ty : TypeId) (x y : Operand) (hop : o.op = .store ty x y) (g : Nat) (cells : Array Value) (hx : a.eval x = .pointer (some ⟨g, 0, none⟩)) (hy : a.eval y = .agg cells) (t : TypeId) (old : Array Value) (hh : w.heap[g]? = some (.cells old t (0, 0))) (hi : (P.info? ty).map (·.size) = some cells.size) (hold : old.size = cells.size) (h1 : cells.all (·.oneCell') = true)
    (h : wpAnyC Fence.wide 3 P md ops C Q fuel (listed.setIfInBounds i true) (a.put o.dst undef) (w.setRow g cells)) : wpAnyC Fence.wide 3 P md ops C Q (fuel + 1) listed a w :=
  stepW i hC hr ho hg fun K hK => wp_store_row ty x y hop g cells hx hy t old hh hi hold h1 (hK _ _ h)
set_option maxRecDepth 100000 in
set_option maxHeartbeats 8000000 in
theorem alone_any (k a b m kh kw sh sw tp lf bt rt : Int) (wa : Option Addr) (lw wc : Nat) (ba : Option Addr) (lb bc : Nat) (sm ss um us z p lo hi h w c H V C : Int) (r : Nat) (W : World) (hr : W.heap[r]? = some (.cells #[.int .i64 k, .int .i64 a, .int .i64 b, .int .i64 m, .int .i64 kh, .int .i64 kw, .int .i64 sh, .int .i64 sw, .int .i64 tp, .int .i64 lf, .int .i64 bt, .int .i64 rt, .slice wa lw wc, .slice ba lb bc, .int .i64 sm, .int .i64 ss, .int .i64 um, .int .i64 us, .int .i64 z, .int .i64 p, .int .i64 lo, .int .i64 hi, .int .i64 h, .int .i64 w, .int .i64 c, .int .i64 H, .int .i64 V, .int .i64 C] 95 (0, 0))) :
    Calls Try.prog 60 #[.pointer (some ⟨r, 0, none⟩)] W fun e w' => ∃ g, e = .returned (.agg #[.int .i64 h, .int .i64 w, .int .i64 c, .int .i64 0, .int .i64 0, .slice (some ⟨g, 0, none⟩) 1 1, .int .i64 0]) ∧ w'.heap[g]? = some (.cells #[.int .i64 k, .int .i64 0, .int .i64 b, .int .i64 m, .int .i64 kh, .int .i64 kw, .int .i64 sh, .int .i64 sw, .int .i64 tp, .int .i64 lf, .int .i64 bt, .int .i64 rt, .slice wa lw wc, .slice ba lb bc, .int .i64 sm, .int .i64 ss, .int .i64 um, .int .i64 us, .int .i64 z, .int .i64 p, .int .i64 lo, .int .i64 hi] 47 (0, 0)) ∧ W.heap.size ≤ g ∧ Below W.heap.size W w' := by
  have hrz := lt_of_heap hr
  have s0 := (St.start W).new (c := #[.int .i64 0, .int .i64 0, .int .i64 0, .int .i64 0, .int .i64 0, .slice none 0 0, .int .i64 0]) (t := 26)
  have hr0 := (s0.below.block r hrz).trans hr
  have HL : Hid (∀ q v, [.int .i64 k, .int .i64 a, .int .i64 b, .int .i64 m, .int .i64 kh, .int .i64 kw, .int .i64 sh, .int .i64 sw, .int .i64 tp, .int .i64 lf, .int .i64 bt, .int .i64 rt, .slice wa lw wc, .slice ba lb bc, .int .i64 sm, .int .i64 ss, .int .i64 um, .int .i64 us, .int .i64 z, .int .i64 p, .int .i64 lo, .int .i64 hi][q]? = some v → (W.alloc (.cells #[.int .i64 0, .int .i64 0, .int .i64 0, .int .i64 0, .int .i64 0, .slice none 0 0, .int .i64 0] 26)).cell? ((⟨r, 0, none⟩ : Addr).add q) = some v) := lcells hr0 (fget [.int .i64 k, .int .i64 a, .int .i64 b, .int .i64 m, .int .i64 kh, .int .i64 kw, .int .i64 sh, .int .i64 sw, .int .i64 tp, .int .i64 lf, .int .i64 bt, .int .i64 rt, .slice wa lw wc, .slice ba lb bc, .int .i64 sm, .int .i64 ss, .int .i64 um, .int .i64 us, .int .i64 z, .int .i64 p, .int .i64 lo, .int .i64 hi] [.int .i64 h, .int .i64 w, .int .i64 c, .int .i64 H, .int .i64 V, .int .i64 C])
  have HR : Hid (W.heap[r]? = some (.cells #[.int .i64 k, .int .i64 a, .int .i64 b, .int .i64 m, .int .i64 kh, .int .i64 kw, .int .i64 sh, .int .i64 sw, .int .i64 tp, .int .i64 lf, .int .i64 bt, .int .i64 rt, .slice wa lw wc, .slice ba lb bc, .int .i64 sm, .int .i64 ss, .int .i64 um, .int .i64 us, .int .i64 z, .int .i64 p, .int .i64 lo, .int .i64 hi, .int .i64 h, .int .i64 w, .int .i64 c, .int .i64 H, .int .i64 V, .int .i64 C] 95 (0, 0))) := hr
  have s1 := s0.new (c := #[.int .i64 k, .int .i64 a, .int .i64 b, .int .i64 m, .int .i64 kh, .int .i64 kw, .int .i64 sh, .int .i64 sw, .int .i64 tp, .int .i64 lf, .int .i64 bt, .int .i64 rt, .slice wa lw wc, .slice ba lb bc, .int .i64 sm, .int .i64 ss, .int .i64 um, .int .i64 us, .int .i64 z, .int .i64 p, .int .i64 lo, .int .i64 hi]) (t := 47)
  simp only [World.size_alloc] at s1
  have S1 : Hid (St W _ _) := s1
  clear hr hr0 s0 s1
  go_enter Try.func60, Try.ntmps60
  go_upto_region 1 with fail
  obtain ⟨w0, hw0⟩ : ∃ w0, W.alloc (.cells #[.int .i64 0, .int .i64 0, .int .i64 0, .int .i64 0, .int .i64 0, .slice none 0 0, .int .i64 0] 26) = w0 := ⟨_, rfl⟩
  rw [hw0] at HL S1 ⊢
  have hz0 : w0.heap.size = W.heap.size + 1 := by rw [← hw0]; simp
  rw [← hz0] at S1
  have HZ0 : Hid (w0.heap.size = W.heap.size + 1) := hz0
  clear hw0 hz0
  obtain ⟨vo, hvo⟩ : ∃ vo, Value.agg #[.int .i64 k, .int .i64 a, .int .i64 b, .int .i64 m, .int .i64 kh, .int .i64 kw, .int .i64 sh, .int .i64 sw, .int .i64 tp, .int .i64 lf, .int .i64 bt, .int .i64 rt, .slice wa lw wc, .slice ba lb bc, .int .i64 sm, .int .i64 ss, .int .i64 um, .int .i64 us, .int .i64 z, .int .i64 p, .int .i64 lo, .int .i64 hi] = vo := ⟨_, rfl⟩
  have HVO : Hid (Value.agg #[.int .i64 k, .int .i64 a, .int .i64 b, .int .i64 m, .int .i64 kh, .int .i64 kw, .int .i64 sh, .int .i64 sw, .int .i64 tp, .int .i64 lf, .int .i64 bt, .int .i64 rt, .slice wa lw wc, .slice ba lb bc, .int .i64 sm, .int .i64 ss, .int .i64 um, .int .i64 us, .int .i64 z, .int .i64 p, .int .i64 lo, .int .i64 hi] = vo) := hvo
  go_upto_region 2 with ((refine wpList_load_any rfl 47 (.tmp 6) rfl _ rfl [.int .i64 k, .int .i64 a, .int .i64 b, .int .i64 m, .int .i64 kh, .int .i64 kw, .int .i64 sh, .int .i64 sw, .int .i64 tp, .int .i64 lf, .int .i64 bt, .int .i64 rt, .slice wa lw wc, .slice ba lb bc, .int .i64 sm, .int .i64 ss, .int .i64 um, .int .i64 us, .int .i64 z, .int .i64 p, .int .i64 lo, .int .i64 hi] _ HL.out Try.underlying47 rfl (by kernel_rfl) ?_; (show wpList _ _ _ _ (Act.put _ _ (Value.agg #[.int .i64 k, .int .i64 a, .int .i64 b, .int .i64 m, .int .i64 kh, .int .i64 kw, .int .i64 sh, .int .i64 sw, .int .i64 tp, .int .i64 lf, .int .i64 bt, .int .i64 rt, .slice wa lw wc, .slice ba lb bc, .int .i64 sm, .int .i64 ss, .int .i64 um, .int .i64 us, .int .i64 z, .int .i64 p, .int .i64 lo, .int .i64 hi])) _); rw [hvo]; clear hvo; refine wpList_run1 rfl (some 3) rfl (.pointer (some ⟨w0.heap.size, 0, none⟩)) (w0.alloc (.cells #[.int .i64 0, .int .i64 0, .int .i64 0, .int .i64 0, .int .i64 0, .int .i64 0, .int .i64 0, .int .i64 0, .int .i64 0, .int .i64 0, .int .i64 0, .int .i64 0, .slice none 0 0, .slice none 0 0, .int .i64 0, .int .i64 0, .int .i64 0, .int .i64 0, .int .i64 0, .int .i64 0, .int .i64 0, .int .i64 0] 47)) (by kernel_rfl) ?_; refine wpList_st_new rfl 47 (.tmp 3) (.tmp 7) rfl w0 #[.int .i64 0, .int .i64 0, .int .i64 0, .int .i64 0, .int .i64 0, .int .i64 0, .int .i64 0, .int .i64 0, .int .i64 0, .int .i64 0, .int .i64 0, .int .i64 0, .slice none 0 0, .slice none 0 0, .int .i64 0, .int .i64 0, .int .i64 0, .int .i64 0, .int .i64 0, .int .i64 0, .int .i64 0, .int .i64 0] #[.int .i64 k, .int .i64 a, .int .i64 b, .int .i64 m, .int .i64 kh, .int .i64 kw, .int .i64 sh, .int .i64 sw, .int .i64 tp, .int .i64 lf, .int .i64 bt, .int .i64 rt, .slice wa lw wc, .slice ba lb bc, .int .i64 sm, .int .i64 ss, .int .i64 um, .int .i64 us, .int .i64 z, .int .i64 p, .int .i64 lo, .int .i64 hi] (by kernel_rfl) (Eq.trans (by kernel_rfl : _ = vo) HVO.out.symm) (by kernel_rfl) rfl (by simp [Value.oneCell']) ?_; (obtain ⟨w1, hw1⟩ : ∃ w1, w0.alloc (.cells #[.int .i64 k, .int .i64 a, .int .i64 b, .int .i64 m, .int .i64 kh, .int .i64 kw, .int .i64 sh, .int .i64 sw, .int .i64 tp, .int .i64 lf, .int .i64 bt, .int .i64 rt, .slice wa lw wc, .slice ba lb bc, .int .i64 sm, .int .i64 ss, .int .i64 um, .int .i64 us, .int .i64 z, .int .i64 p, .int .i64 lo, .int .i64 hi] 47) = w1 := ⟨_, rfl⟩); rw [hw1] at S1 ⊢; clear hw1))
  obtain ⟨c1, f1, z1, -⟩ := S1.out.rules
  go_upto_region 3 with fail
  have s2 := S1.out.seti (i := 1) (v := .int .i64 0) (by simp; have := HZ0.out; omega) #[.int .i64 k, .int .i64 0, .int .i64 b, .int .i64 m, .int .i64 kh, .int .i64 kw, .int .i64 sh, .int .i64 sw, .int .i64 tp, .int .i64 lf, .int .i64 bt, .int .i64 rt, .slice wa lw wc, .slice ba lb bc, .int .i64 sm, .int .i64 ss, .int .i64 um, .int .i64 us, .int .i64 z, .int .i64 p, .int .i64 lo, .int .i64 hi] (by kernel_rfl)
  obtain ⟨w2, hw2⟩ : ∃ w2, w1.setCell ⟨w0.heap.size, 1, none⟩ (.int .i64 0) = w2 := ⟨_, rfl⟩
  rw [hw2] at s2 ⊢
  have S2 : Hid (St W w2 _) := s2
  have hG1 := s2.h1
  have hG2 := s2.h2
  have hG3 := (s2.below.block r hrz).trans HR.out
  clear hw2 S1 c1 f1 s2 HL
  refine regionC (fun w' => w'.heap[r]? = some (.cells #[.int .i64 k, .int .i64 a, .int .i64 b, .int .i64 m, .int .i64 kh, .int .i64 kw, .int .i64 sh, .int .i64 sw, .int .i64 tp, .int .i64 lf, .int .i64 bt, .int .i64 rt, .slice wa lw wc, .slice ba lb bc, .int .i64 sm, .int .i64 ss, .int .i64 um, .int .i64 us, .int .i64 z, .int .i64 p, .int .i64 lo, .int .i64 hi, .int .i64 h, .int .i64 w, .int .i64 c, .int .i64 H, .int .i64 V, .int .i64 C] 95 (0, 0)) ∧ w'.heap[w0.heap.size]? = some (.cells #[.int .i64 k, .int .i64 0, .int .i64 b, .int .i64 m, .int .i64 kh, .int .i64 kw, .int .i64 sh, .int .i64 sw, .int .i64 tp, .int .i64 lf, .int .i64 bt, .int .i64 rt, .slice wa lw wc, .slice ba lb bc, .int .i64 sm, .int .i64 ss, .int .i64 um, .int .i64 us, .int .i64 z, .int .i64 p, .int .i64 lo, .int .i64 hi] 47 (0, 0))) (by kernel_rfl) ?_
  obtain ⟨wd, hwd⟩ : ∃ wd, w2.drew = wd := ⟨_, rfl⟩
  have HD : Hid (wd.heap[r]? = some (.cells #[.int .i64 k, .int .i64 a, .int .i64 b, .int .i64 m, .int .i64 kh, .int .i64 kw, .int .i64 sh, .int .i64 sw, .int .i64 tp, .int .i64 lf, .int .i64 bt, .int .i64 rt, .slice wa lw wc, .slice ba lb bc, .int .i64 sm, .int .i64 ss, .int .i64 um, .int .i64 us, .int .i64 z, .int .i64 p, .int .i64 lo, .int .i64 hi, .int .i64 h, .int .i64 w, .int .i64 c, .int .i64 H, .int .i64 V, .int .i64 C] 95 (0, 0)) ∧ wd.heap[w0.heap.size]? = some (.cells #[.int .i64 k, .int .i64 0, .int .i64 b, .int .i64 m, .int .i64 kh, .int .i64 kw, .int .i64 sh, .int .i64 sw, .int .i64 tp, .int .i64 lf, .int .i64 bt, .int .i64 rt, .slice wa lw wc, .slice ba lb bc, .int .i64 sm, .int .i64 ss, .int .i64 um, .int .i64 us, .int .i64 z, .int .i64 p, .int .i64 lo, .int .i64 hi] 47 (0, 0))) := by unfold Hid; rw [← hwd]; exact ⟨hG3, hG1⟩
  have s3 := S2.out.drew
  rw [hwd] at s3 ⊢
  have S3 : Hid (St W wd _) := s3
  clear hwd S2 hG1 hG2 hG3 s3
  refine takeC 0 (v := .pointer (some ⟨r, 0, none⟩)) rfl rfl (by kernel_rfl) (by kernel_rfl) (by kernel_rfl) (fun _ _ _ h => h) (fun _ => rfl) rfl (fun w' hw' => by go_simp) ?_
  refine takeC 1 (v := .pointer (some ⟨r, 0, none⟩)) rfl rfl (by kernel_rfl) (by kernel_rfl) (by kernel_rfl) (fun _ _ _ h => h) (fun _ => rfl) rfl (fun w' hw' => by go_simp) ?_
  refine takeC 2 (v := .pointer (some ⟨r, 22, none⟩)) rfl rfl (by kernel_rfl) (by kernel_rfl) (by kernel_rfl) (fun _ _ _ h => h) (fun _ => rfl) rfl (fun w' hw' => by go_simp) ?_
  refine takeC 3 (v := .agg #[.int .i64 h, .int .i64 w, .int .i64 c]) rfl rfl (by kernel_rfl) (by kernel_rfl) (by kernel_rfl) (fun _ _ _ h => h) (fun _ => rfl) rfl (fun w' hw' => run_la 23 (.tmp 11) rfl ⟨r, 22, none⟩ (by kernel_rfl) [.int .i64 h, .int .i64 w, .int .i64 c] _ (three_at hw'.1 rfl rfl rfl) Try.underlying23 rfl (by kernel_rfl)) ?_
  refine takeC 4 (v := .agg #[.int .i64 k, .int .i64 0, .int .i64 b, .int .i64 m, .int .i64 kh, .int .i64 kw, .int .i64 sh, .int .i64 sw, .int .i64 tp, .int .i64 lf, .int .i64 bt, .int .i64 rt, .slice wa lw wc, .slice ba lb bc, .int .i64 sm, .int .i64 ss, .int .i64 um, .int .i64 us, .int .i64 z, .int .i64 p, .int .i64 lo, .int .i64 hi]) rfl rfl (by kernel_rfl) (by kernel_rfl) (by kernel_rfl) (fun _ _ _ h => h) (fun _ => rfl) rfl (fun w' hw' => run_la 47 (.tmp 3) rfl ⟨w0.heap.size, 0, none⟩ (by kernel_rfl) [.int .i64 k, .int .i64 0, .int .i64 b, .int .i64 m, .int .i64 kh, .int .i64 kw, .int .i64 sh, .int .i64 sw, .int .i64 tp, .int .i64 lf, .int .i64 bt, .int .i64 rt, .slice wa lw wc, .slice ba lb bc, .int .i64 sm, .int .i64 ss, .int .i64 um, .int .i64 us, .int .i64 z, .int .i64 p, .int .i64 lo, .int .i64 hi] _ (lcells hw'.2 (fget [.int .i64 k, .int .i64 0, .int .i64 b, .int .i64 m, .int .i64 kh, .int .i64 kw, .int .i64 sh, .int .i64 sw, .int .i64 tp, .int .i64 lf, .int .i64 bt, .int .i64 rt, .slice wa lw wc, .slice ba lb bc, .int .i64 sm, .int .i64 ss, .int .i64 um, .int .i64 us, .int .i64 z, .int .i64 p, .int .i64 lo, .int .i64 hi] [])) Try.underlying47 rfl (by kernel_rfl)) ?_
  refine stepR 5 HD.out (by kernel_rfl) rfl rfl (.slice (some ⟨wd.heap.size, 0, none⟩) 1 1) (wd.alloc (.cells #[.int .i64 k, .int .i64 0, .int .i64 b, .int .i64 m, .int .i64 kh, .int .i64 kw, .int .i64 sh, .int .i64 sw, .int .i64 tp, .int .i64 lf, .int .i64 bt, .int .i64 rt, .slice wa lw wc, .slice ba lb bc, .int .i64 sm, .int .i64 ss, .int .i64 um, .int .i64 us, .int .i64 z, .int .i64 p, .int .i64 lo, .int .i64 hi] 47)) (by kernel_rfl) ?_
  have HA : Hid ((wd.alloc (.cells #[.int .i64 k, .int .i64 0, .int .i64 b, .int .i64 m, .int .i64 kh, .int .i64 kw, .int .i64 sh, .int .i64 sw, .int .i64 tp, .int .i64 lf, .int .i64 bt, .int .i64 rt, .slice wa lw wc, .slice ba lb bc, .int .i64 sm, .int .i64 ss, .int .i64 um, .int .i64 us, .int .i64 z, .int .i64 p, .int .i64 lo, .int .i64 hi] 47)).heap[r]? = some (.cells #[.int .i64 k, .int .i64 a, .int .i64 b, .int .i64 m, .int .i64 kh, .int .i64 kw, .int .i64 sh, .int .i64 sw, .int .i64 tp, .int .i64 lf, .int .i64 bt, .int .i64 rt, .slice wa lw wc, .slice ba lb bc, .int .i64 sm, .int .i64 ss, .int .i64 um, .int .i64 us, .int .i64 z, .int .i64 p, .int .i64 lo, .int .i64 hi, .int .i64 h, .int .i64 w, .int .i64 c, .int .i64 H, .int .i64 V, .int .i64 C] 95 (0, 0)) ∧ (wd.alloc (.cells #[.int .i64 k, .int .i64 0, .int .i64 b, .int .i64 m, .int .i64 kh, .int .i64 kw, .int .i64 sh, .int .i64 sw, .int .i64 tp, .int .i64 lf, .int .i64 bt, .int .i64 rt, .slice wa lw wc, .slice ba lb bc, .int .i64 sm, .int .i64 ss, .int .i64 um, .int .i64 us, .int .i64 z, .int .i64 p, .int .i64 lo, .int .i64 hi] 47)).heap[w0.heap.size]? = some (.cells #[.int .i64 k, .int .i64 0, .int .i64 b, .int .i64 m, .int .i64 kh, .int .i64 kw, .int .i64 sh, .int .i64 sw, .int .i64 tp, .int .i64 lf, .int .i64 bt, .int .i64 rt, .slice wa lw wc, .slice ba lb bc, .int .i64 sm, .int .i64 ss, .int .i64 um, .int .i64 us, .int .i64 z, .int .i64 p, .int .i64 lo, .int .i64 hi] 47 (0, 0))) := ⟨(heap_alloc_old wd _ (lt_of_heap HD.out.1)).trans HD.out.1, (heap_alloc_old wd _ (lt_of_heap HD.out.2)).trans HD.out.2⟩
  have s4 := S3.out.new (c := #[.int .i64 k, .int .i64 0, .int .i64 b, .int .i64 m, .int .i64 kh, .int .i64 kw, .int .i64 sh, .int .i64 sw, .int .i64 tp, .int .i64 lf, .int .i64 bt, .int .i64 rt, .slice wa lw wc, .slice ba lb bc, .int .i64 sm, .int .i64 ss, .int .i64 um, .int .i64 us, .int .i64 z, .int .i64 p, .int .i64 lo, .int .i64 hi]) (t := 47)
  have hwz : Hid (W.heap.size ≤ wd.heap.size) := S3.out.size
  obtain ⟨w4, hw4⟩ : ∃ w4, wd.alloc (.cells #[.int .i64 k, .int .i64 0, .int .i64 b, .int .i64 m, .int .i64 kh, .int .i64 kw, .int .i64 sh, .int .i64 sw, .int .i64 tp, .int .i64 lf, .int .i64 bt, .int .i64 rt, .slice wa lw wc, .slice ba lb bc, .int .i64 sm, .int .i64 ss, .int .i64 um, .int .i64 us, .int .i64 z, .int .i64 p, .int .i64 lo, .int .i64 hi] 47) = w4 := ⟨_, rfl⟩
  rw [hw4] at HA s4 ⊢
  have S4 : Hid (St W w4 _) := s4
  clear hw4 s4 S3 HD
  obtain ⟨g, hg⟩ : ∃ g, wd.heap.size = g := ⟨_, rfl⟩
  rw [hg] at S4 hwz ⊢
  clear hg
  refine takeC 6 (v := .agg #[.int .i64 h, .int .i64 w, .int .i64 c, .int .i64 0, .int .i64 0, .slice (some ⟨g, 0, none⟩) 1 1, .int .i64 0]) rfl rfl (by kernel_rfl) (by kernel_rfl) (by kernel_rfl) (fun _ _ _ h => h) (fun _ => rfl) rfl (fun w' hw' => by kernel_rfl) ?_
  have HS3 : Hid (w4.heap[W.heap.size]? = some (.cells #[.int .i64 0, .int .i64 0, .int .i64 0, .int .i64 0, .int .i64 0, .slice none 0 0, .int .i64 0] 26 (0, 0))) := S4.out.h3
  refine stepS 7 HA.out (by kernel_rfl) rfl rfl 26 (.tmp 2) (.tmp 15) rfl W.heap.size #[.int .i64 h, .int .i64 w, .int .i64 c, .int .i64 0, .int .i64 0, .slice (some ⟨g, 0, none⟩) 1 1, .int .i64 0] (by kernel_rfl) (by kernel_rfl) 26 #[.int .i64 0, .int .i64 0, .int .i64 0, .int .i64 0, .int .i64 0, .slice none 0 0, .int .i64 0] HS3.out (by kernel_rfl) rfl (by simp [Value.oneCell']) ?_
  have hZ' := setRow_heap w4 W.heap.size #[.int .i64 0, .int .i64 0, .int .i64 0, .int .i64 0, .int .i64 0, .slice none 0 0, .int .i64 0] #[.int .i64 h, .int .i64 w, .int .i64 c, .int .i64 0, .int .i64 0, .slice (some ⟨g, 0, none⟩) 1 1, .int .i64 0] 26 (0, 0) HS3.out
  have hn1 : g ≠ W.heap.size := fun e => by have h1 := S4.out.h1; rw [e, HS3.out] at h1; simp at h1
  have hn2 : w0.heap.size ≠ W.heap.size := by have := HZ0.out; omega
  have hn3 : r ≠ W.heap.size := by omega
  have hO' : Hid ((w4.setRow W.heap.size #[.int .i64 h, .int .i64 w, .int .i64 c, .int .i64 0, .int .i64 0, .slice (some ⟨g, 0, none⟩) 1 1, .int .i64 0]).heap[g]? = some (.cells #[.int .i64 k, .int .i64 0, .int .i64 b, .int .i64 m, .int .i64 kh, .int .i64 kw, .int .i64 sh, .int .i64 sw, .int .i64 tp, .int .i64 lf, .int .i64 bt, .int .i64 rt, .slice wa lw wc, .slice ba lb bc, .int .i64 sm, .int .i64 ss, .int .i64 um, .int .i64 us, .int .i64 z, .int .i64 p, .int .i64 lo, .int .i64 hi] 47 (0, 0))) := (setRow_other _ _ _ _ hn1).trans S4.out.h1
  have hB' : Hid (Below W.heap.size W (w4.setRow W.heap.size #[.int .i64 h, .int .i64 w, .int .i64 c, .int .i64 0, .int .i64 0, .slice (some ⟨g, 0, none⟩) 1 1, .int .i64 0])) := below_setRow S4.out.below (Nat.le_refl _) #[.int .i64 h, .int .i64 w, .int .i64 c, .int .i64 0, .int .i64 0, .slice (some ⟨g, 0, none⟩) 1 1, .int .i64 0]
  have hC' : (w4.setRow W.heap.size #[.int .i64 h, .int .i64 w, .int .i64 c, .int .i64 0, .int .i64 0, .slice (some ⟨g, 0, none⟩) 1 1, .int .i64 0]).heap[r]? = some (.cells #[.int .i64 k, .int .i64 a, .int .i64 b, .int .i64 m, .int .i64 kh, .int .i64 kw, .int .i64 sh, .int .i64 sw, .int .i64 tp, .int .i64 lf, .int .i64 bt, .int .i64 rt, .slice wa lw wc, .slice ba lb bc, .int .i64 sm, .int .i64 ss, .int .i64 um, .int .i64 us, .int .i64 z, .int .i64 p, .int .i64 lo, .int .i64 hi, .int .i64 h, .int .i64 w, .int .i64 c, .int .i64 H, .int .i64 V, .int .i64 C] 95 (0, 0)) ∧ (w4.setRow W.heap.size #[.int .i64 h, .int .i64 w, .int .i64 c, .int .i64 0, .int .i64 0, .slice (some ⟨g, 0, none⟩) 1 1, .int .i64 0]).heap[w0.heap.size]? = some (.cells #[.int .i64 k, .int .i64 0, .int .i64 b, .int .i64 m, .int .i64 kh, .int .i64 kw, .int .i64 sh, .int .i64 sw, .int .i64 tp, .int .i64 lf, .int .i64 bt, .int .i64 rt, .slice wa lw wc, .slice ba lb bc, .int .i64 sm, .int .i64 ss, .int .i64 um, .int .i64 us, .int .i64 z, .int .i64 p, .int .i64 lo, .int .i64 hi] 47 (0, 0)) := ⟨(setRow_other _ _ _ _ hn3).trans HA.out.1, (setRow_other _ _ _ _ hn2).trans HA.out.2⟩
  obtain ⟨w5, hw5⟩ : ∃ w5, w4.setRow W.heap.size #[.int .i64 h, .int .i64 w, .int .i64 c, .int .i64 0, .int .i64 0, .slice (some ⟨g, 0, none⟩) 1 1, .int .i64 0] = w5 := ⟨_, rfl⟩
  rw [hw5] at hZ' hO' hB' hC' ⊢
  clear hw5 S4 HS3 HA
  refine doneC hC' (by kernel_rfl) ?_ _
  obtain ⟨c1, f1, z5⟩ := cells_at hZ'
  clear hC' hZ'
  go_wp2
  exact bodyPost_ret (v := .agg #[.int .i64 h, .int .i64 w, .int .i64 c, .int .i64 0, .int .i64 0, .slice (some ⟨g, 0, none⟩) 1 1, .int .i64 0]) (by simp [results, Try.results60, go_sem, *]) rfl ⟨g, rfl, hO'.out, hwz.out, hB'.out⟩
end Go.Proofs.Ytbogpgaifbjahaa

/- The reach of an op, by package norm and by the document; the document's sums of weights. -/
namespace Go.Proofs.Ytbogpgaifbjahaa
open Go.ChangeShapes Go.WideShapes Go.ChangeAt Go.RowKit
set_option linter.unusedVariables false
theorem rc_3 (R p : Int) : mxI (mxI R (-p)) p = mxI R (szV p) := by
  unfold mxI szV
  repeat' split
  all_goals omega
theorem rcS_4 (lo hi : Int) : mxI (mxI (mxI (-lo) lo) (-hi)) hi = rcS lo hi := by
  unfold rcS mxI szV
  repeat' split
  all_goals omega
set_option maxHeartbeats 2000000 in
set_option maxRecDepth 100000 in
theorem nrch_any (k a b m kh kw sh sw tp lf bt rt : Int) (wa : Option Addr) (lw wc : Nat) (ba : Option Addr) (lb bc : Nat) (sm ss um us z p slo shi : Int) (lo hi : Int) (W : World) (htp : 0 ≤ tp ∧ tp ≤ 31) (hlf : 0 ≤ lf ∧ lf ≤ 31) (hbt : 0 ≤ bt ∧ bt ≤ 31) (hrt : 0 ≤ rt ∧ rt ≤ 31) (hp : I8 p) (hs : -128 ≤ lo ∧ lo ≤ hi ∧ hi ≤ 127) :
    Calls Try.prog 43 #[.agg #[.int .i64 k, .int .i64 a, .int .i64 b, .int .i64 m, .int .i64 kh, .int .i64 kw, .int .i64 sh, .int .i64 sw, .int .i64 tp, .int .i64 lf, .int .i64 bt, .int .i64 rt, .slice wa lw wc, .slice ba lb bc, .int .i64 sm, .int .i64 ss, .int .i64 um, .int .i64 us, .int .i64 z, .int .i64 p, .int .i64 slo, .int .i64 shi], .agg #[.int .i64 lo, .int .i64 hi]] W fun e w' => e = .returned (.int .i64 (rcV tp lf bt rt p lo hi)) ∧ Below W.heap.size W w' := by
  obtain ⟨lo1, lo2, lo3⟩ := hs
  obtain ⟨p1, p2⟩ := hp
  have hm := max4 (-lo) lo (-hi) hi _ (rcS_4 lo hi)
  have HP : Hid (∀ W', _) := fun W' => pads_any kh kw sh sw tp lf bt rt W' htp hlf hbt hrt
  have hrb : 0 ≤ rcS lo hi ∧ rcS lo hi ≤ 128 := mxI_bd (szV_bd (by omega)) (szV_bd (by omega))
  have HV : Hid (rcV tp lf bt rt p lo hi = if 0 < tp + lf + bt + rt then mxI (rcS lo hi) (szV p) else rcS lo hi) := rfl
  rw [HV.out]
  obtain ⟨R, hR⟩ : ∃ R, rcS lo hi = R := ⟨_, rfl⟩
  rw [hR] at hm hrb ⊢
  have s0 := ((St.start W).new (c := #[.int .i64 k, .int .i64 a, .int .i64 b, .int .i64 m, .int .i64 kh, .int .i64 kw, .int .i64 sh, .int .i64 sw, .int .i64 tp, .int .i64 lf, .int .i64 bt, .int .i64 rt, .slice wa lw wc, .slice ba lb bc, .int .i64 sm, .int .i64 ss, .int .i64 um, .int .i64 us, .int .i64 z, .int .i64 p, .int .i64 slo, .int .i64 shi]) (t := 47)).new (c := #[.int .i64 lo, .int .i64 hi]) (t := 28)
  simp only [World.size_alloc] at s0
  have S0 : Hid (St W _ _) := s0
  have hm3 := max3 R (-p) p _ (rc_3 R p)
  clear hR HV htp hlf hbt hrt s0
  obtain ⟨q, hq⟩ : ∃ q, tp + lf + bt + rt = q := ⟨_, rfl⟩
  rw [hq] at HP ⊢
  clear hq
  by_cases c : 0 < q
  · have hd : decide (0 < q) = true := decide_eq_true c
    rw [hd] at HP
    rw [if_pos c]
    clear c hd
    go_enter Try.func43, Try.ntmps43
    go_wp2_with fail
    refine (HP.out _).mono ?_
    rintro e w1 ⟨rfl, hb⟩
    have S1 : Hid (St W w1 _) := S0.out.call hb
    obtain ⟨c1, f1, z1, c2, f2, z2, -⟩ := S1.out.rules
    clear hb S0 HP
    go_wp2
    go_ret
    exact ⟨rfl, S1.out.below⟩
  · have hd : decide (0 < q) = false := decide_eq_false c
    rw [hd] at HP
    rw [if_neg c]
    clear c hd
    go_enter Try.func43, Try.ntmps43
    go_wp2_with fail
    refine (HP.out _).mono ?_
    rintro e w1 ⟨rfl, hb⟩
    have S1 : Hid (St W w1 _) := S0.out.call hb
    clear hb S0 HP
    go_wp2
    go_ret
    exact ⟨rfl, S1.out.below⟩
end Go.Proofs.Ytbogpgaifbjahaa

/- What L1, Signed and Quick of package norm return. -/
namespace Go.Proofs.Ytbogpgaifbjahaa
open Go.ChangeShapes Go.WideShapes Go.ChangeAt Go.RowKit
set_option linter.unusedVariables false
set_option maxHeartbeats 2000000 in
theorem qu_e (h w c lo hi ot op ch : Int) (oa : Option Addr) (on oc : Nat) (W : World) (slo shi E : Int) (hE : E ≠ 0) (HO : Hid (∀ W', Below W.heap.size W W' → Calls Try.prog 7 #[.agg #[.int .i64 h, .int .i64 w, .int .i64 c, .int .i64 lo, .int .i64 hi, .slice oa on oc, .int .i64 ot], .int .i64 op, .int .i64 ch, .int .i64 0] W' fun e w' => e = .returned (.tuple #[.slice none 0 0, .int .i64 0, .int .i64 E]) ∧ Below W'.heap.size W' w')) :
    Calls Try.prog 16 #[.agg #[.int .i64 h, .int .i64 w, .int .i64 c, .int .i64 lo, .int .i64 hi, .slice oa on oc, .int .i64 ot], .int .i64 op, .int .i64 ch, .agg #[.int .i64 slo, .int .i64 shi]] W fun e w' => e = .returned (.tuple #[.agg #[.int .i64 0, .int .i64 0], .int .i64 E]) ∧ Below W.heap.size W w' := by
  have s0 := (((St.start W).new (c := #[.int .i64 h, .int .i64 w, .int .i64 c, .int .i64 lo, .int .i64 hi, .slice oa on oc, .int .i64 ot]) (t := 26)).new (c := #[.int .i64 slo, .int .i64 shi]) (t := 28)).new (c := #[.int .i64 0, .int .i64 0]) (t := 28)
  simp only [World.size_alloc] at s0
  have hE' : (E == 0) = false := by simp [hE]
  go_enter Try.func16, Try.ntmps16
  go_wp2_with fail
  refine Calls.mono (HO.out _ s0.below) ?_
  rintro e w1 ⟨rfl, hb⟩
  have s1 := s0.call hb
  obtain ⟨c1, f1, z1, c2, f2, z2, -⟩ := s1.rules
  clear hb s0 HO
  go_wp2
  exact bodyPost_ret (v := .tuple #[.agg #[.int .i64 0, .int .i64 0], .int .i64 E]) (by simp [results, Try.results16, go_sem, c1]) rfl ⟨rfl, s1.out2⟩
set_option maxHeartbeats 2000000 in
theorem qu_30 (h w c lo hi ot op ch : Int) (oa : Option Addr) (on oc : Nat) (W : World) (slo shi bi : Int) (TL : List (Int × Int)) (HO : Hid (∀ W', Below W.heap.size W W' → Calls Try.prog 7 #[.agg #[.int .i64 h, .int .i64 w, .int .i64 c, .int .i64 lo, .int .i64 hi, .slice oa on oc, .int .i64 ot], .int .i64 op, .int .i64 ch, .int .i64 0] W' fun e w' => (∃ v, e = .returned (.tuple #[v, .int .i64 bi, .int .i64 0]) ∧ OTm w' W'.heap.size v TL) ∧ Below W'.heap.size W' w')) (hs : vaB slo shi = false) :
    Calls Try.prog 16 #[.agg #[.int .i64 h, .int .i64 w, .int .i64 c, .int .i64 lo, .int .i64 hi, .slice oa on oc, .int .i64 ot], .int .i64 op, .int .i64 ch, .agg #[.int .i64 slo, .int .i64 shi]] W fun e w' => e = .returned (.tuple #[.agg #[.int .i64 0, .int .i64 0], .int .i64 30]) ∧ Below W.heap.size W w' := by
  have s0 := (((St.start W).new (c := #[.int .i64 h, .int .i64 w, .int .i64 c, .int .i64 lo, .int .i64 hi, .slice oa on oc, .int .i64 ot]) (t := 26)).new (c := #[.int .i64 slo, .int .i64 shi]) (t := 28)).new (c := #[.int .i64 0, .int .i64 0]) (t := 28)
  simp only [World.size_alloc] at s0
  have HV : Hid (∀ W, _) := fun W => nva_any slo shi W
  rw [hs] at HV
  go_enter Try.func16, Try.ntmps16
  go_wp2_with fail
  refine Calls.mono (HO.out _ s0.below) ?_
  rintro e w1 ⟨⟨v, rfl, hO⟩, hb⟩
  have s1 := s0.call hb
  obtain ⟨va, vc, rfl⟩ := hO.slice
  obtain ⟨c1, f1, z1, c2, f2, z2, -⟩ := s1.rules
  clear hb s0 HO hO
  go_wp2_with fail
  refine Calls.mono (HV.out _) ?_
  rintro e w2 ⟨rfl, hb⟩
  have s2 := s1.call hb
  clear hb s1 c1 f1 z1 c2 f2 z2
  obtain ⟨c1, f1, z1, c2, f2, z2, -⟩ := s2.rules
  go_wp2
  exact bodyPost_ret (v := .tuple #[.agg #[.int .i64 0, .int .i64 0], .int .i64 30]) (by simp [results, Try.results16, go_sem, c1]) rfl ⟨rfl, s2.out2⟩
set_option maxHeartbeats 4000000 in
set_option maxRecDepth 100000 in
theorem qu_ok (h w c lo hi ot ch : Int) (x : Addr) (on oc i : Nat) (W : World) (slo shi bi U R : Int) (TL : List (Int × Int)) (O : Nat → Nat → Int) (wa : Option Addr) (lw cw : Nat) (ba : Option Addr) (lb cb : Nat) (hin : i < on) (hoc : on ≤ oc) (hom : oc ≤ maxLen)
    (hcell : ∀ q v, [.int .i64 (O i 0), .int .i64 (O i 1), .int .i64 (O i 2), .int .i64 (O i 3), .int .i64 (O i 4), .int .i64 (O i 5), .int .i64 (O i 6), .int .i64 (O i 7), .int .i64 (O i 8), .int .i64 (O i 9), .int .i64 (O i 10), .int .i64 (O i 11), .slice wa lw cw, .slice ba lb cb, .int .i64 (O i 14), .int .i64 (O i 15), .int .i64 (O i 16), .int .i64 (O i 17), .int .i64 (O i 18), .int .i64 (O i 19), .int .i64 (O i 20), .int .i64 (O i 21)][q]? = some v → W.cell? ((x.add (i * 22)).add q) = some v)
    (HO : Hid (∀ W', Below W.heap.size W W' → Calls Try.prog 7 #[.agg #[.int .i64 h, .int .i64 w, .int .i64 c, .int .i64 lo, .int .i64 hi, .slice (some x) on oc, .int .i64 ot], .int .i64 ((i : Int) + 1), .int .i64 ch, .int .i64 0] W' fun e w' => (∃ v, e = .returned (.tuple #[v, .int .i64 bi, .int .i64 0]) ∧ OTm w' W'.heap.size v TL) ∧ Below W'.heap.size W' w'))
    (HU : Hid (∀ (v : Value) (W : World), TV W v TL → Calls Try.prog 42 #[v] W fun e w' => e = .returned (.int .i64 U) ∧ Below W.heap.size W w'))
    (HR : Hid (∀ W, Calls Try.prog 43 #[.agg #[.int .i64 (O i 0), .int .i64 (O i 1), .int .i64 (O i 2), .int .i64 (O i 3), .int .i64 (O i 4), .int .i64 (O i 5), .int .i64 (O i 6), .int .i64 (O i 7), .int .i64 (O i 8), .int .i64 (O i 9), .int .i64 (O i 10), .int .i64 (O i 11), .slice wa lw cw, .slice ba lb cb, .int .i64 (O i 14), .int .i64 (O i 15), .int .i64 (O i 16), .int .i64 (O i 17), .int .i64 (O i 18), .int .i64 (O i 19), .int .i64 (O i 20), .int .i64 (O i 21)], .agg #[.int .i64 slo, .int .i64 shi]] W fun e w' => e = .returned (.int .i64 R) ∧ Below W.heap.size W w')) (hs : vaB slo shi = true) (hU : 0 ≤ U ∧ U ≤ 33554432) (hR : 0 ≤ R ∧ R ≤ 128) (hbi : -2147483648 ≤ bi ∧ bi ≤ 2147483647) :
    Calls Try.prog 16 #[.agg #[.int .i64 h, .int .i64 w, .int .i64 c, .int .i64 lo, .int .i64 hi, .slice (some x) on oc, .int .i64 ot], .int .i64 ((i : Int) + 1), .int .i64 ch, .agg #[.int .i64 slo, .int .i64 shi]] W fun e w' => e = .returned (.tuple #[.agg #[.int .i64 (bi - U * R), .int .i64 (bi + U * R)], .int .i64 0]) ∧ Below W.heap.size W w' := by
  have s0 := (((St.start W).new (c := #[.int .i64 h, .int .i64 w, .int .i64 c, .int .i64 lo, .int .i64 hi, .slice (some x) on oc, .int .i64 ot]) (t := 26)).new (c := #[.int .i64 slo, .int .i64 shi]) (t := 28)).new (c := #[.int .i64 0, .int .i64 0]) (t := 28)
  simp only [World.size_alloc] at s0
  have HV : Hid (∀ W, _) := fun W => nva_any slo shi W
  rw [hs] at HV
  have hD := aw_bd hU hR
  obtain ⟨D, hDe⟩ : ∃ D, U * R = D := ⟨_, rfl⟩
  rw [hDe] at hD ⊢
  have HDe : Hid (U * R = D) := hDe
  have Hc : Hid (∀ q v, [.int .i64 (O i 0), .int .i64 (O i 1), .int .i64 (O i 2), .int .i64 (O i 3), .int .i64 (O i 4), .int .i64 (O i 5), .int .i64 (O i 6), .int .i64 (O i 7), .int .i64 (O i 8), .int .i64 (O i 9), .int .i64 (O i 10), .int .i64 (O i 11), .slice wa lw cw, .slice ba lb cb, .int .i64 (O i 14), .int .i64 (O i 15), .int .i64 (O i 16), .int .i64 (O i 17), .int .i64 (O i 18), .int .i64 (O i 19), .int .i64 (O i 20), .int .i64 (O i 21)][q]? = some v → W.cell? ((x.add (i * 22)).add q) = some v) := hcell
  unfold maxLen at hom
  clear hDe hcell hU hR hs
  go_enter Try.func16, Try.ntmps16
  go_wp2_with fail
  refine Calls.mono (HO.out _ s0.below) ?_
  rintro e w1 ⟨⟨v, rfl, hO⟩, hb⟩
  have s1 := s0.call hb
  have T1 : Hid (TV w1 v TL) := hO.tv
  obtain ⟨va, vc, rfl⟩ := hO.slice
  obtain ⟨c1, f1, z1, c2, f2, z2, -⟩ := s1.rules
  clear hb s0 HO hO
  go_wp2_with fail
  refine Calls.mono (HV.out _) ?_
  rintro e w2 ⟨rfl, hb⟩
  have s2 := s1.call hb
  have T2 : Hid (TV w2 (.slice va TL.length vc) TL) := T1.out.below hb
  clear hb s1 c1 f1 z1 c2 f2 z2 T1 HV
  have S2 : Hid (St W w2 _) := s2
  obtain ⟨N, hN⟩ : ∃ N, TL.length = N := ⟨_, rfl⟩
  rw [hN] at T2 ⊢
  clear s2 hN
  go_upto_region 6 with fail
  have HC2 : Hid (∀ q v, [.int .i64 (O i 0), .int .i64 (O i 1), .int .i64 (O i 2), .int .i64 (O i 3), .int .i64 (O i 4), .int .i64 (O i 5), .int .i64 (O i 6), .int .i64 (O i 7), .int .i64 (O i 8), .int .i64 (O i 9), .int .i64 (O i 10), .int .i64 (O i 11), .slice wa lw cw, .slice ba lb cb, .int .i64 (O i 14), .int .i64 (O i 15), .int .i64 (O i 16), .int .i64 (O i 17), .int .i64 (O i 18), .int .i64 (O i 19), .int .i64 (O i 20), .int .i64 (O i 21)][q]? = some v → w2.cell? ((x.add (i * 22)).add q) = some v) := fun q v hq => (S2.out.below.cell (World.block_lt_of_cell? W _ (Hc.out q v hq))).trans (Hc.out q v hq)
  have hG1 := S2.out.h2
  have hG2 := S2.out.h3
  clear Hc
  refine regionC (fun w' => Below w2.heap.size w2 w') (by kernel_rfl) ?_
  obtain ⟨wd, hwd⟩ : ∃ wd, w2.drew = wd := ⟨_, rfl⟩
  have HD : Hid (Below w2.heap.size w2 wd) := by rw [← hwd]; exact (Below.refl _ _).drew
  rw [hwd]
  clear hwd
  refine takeC 0 (v := .slice va N vc) rfl rfl (by kernel_rfl) (by kernel_rfl) (by kernel_rfl) (fun _ _ _ h => h) (fun _ => rfl) rfl (fun w' hw' => by go_simp) ?_
  refine takeC 2 (v := .pointer (some ⟨W.heap.size, 5, none⟩)) rfl rfl (by kernel_rfl) (by kernel_rfl) (by kernel_rfl) (fun _ _ _ h => h) (fun _ => rfl) rfl (fun w' hw' => by go_simp) ?_
  refine takeC 3 (v := .slice (some x) on oc) rfl rfl (by kernel_rfl) (by kernel_rfl) (by kernel_rfl) (fun _ _ _ h => h) (fun _ => rfl) rfl (fun w' hw' => by have hc := (cells_at ((hw'.block _ (lt_of_heap hG2)).trans hG2)).1 5; go_simp) ?_
  refine takeC 4 (v := .int .i64 ((i : Int) + 1)) rfl rfl (by kernel_rfl) (by kernel_rfl) (by kernel_rfl) (fun _ _ _ h => h) (fun _ => rfl) rfl (fun w' hw' => by go_simp) ?_
  refine takeC 5 (v := .int .i64 (i : Int)) rfl rfl (by kernel_rfl) (by kernel_rfl) (by kernel_rfl) (fun _ _ _ h => h) (fun _ => rfl) rfl (fun w' hw' => by go_simp; rw [IntKind.wrap_i64]; omega) ?_
  refine takeC 6 (v := .pointer (some (x.add (i * 22)))) rfl rfl (by kernel_rfl) (by kernel_rfl) (by kernel_rfl) (fun _ _ _ h => h) (fun _ => rfl) rfl (fun w' hw' => by go_simp) ?_
  refine takeC 7 (v := .agg #[.int .i64 (O i 0), .int .i64 (O i 1), .int .i64 (O i 2), .int .i64 (O i 3), .int .i64 (O i 4), .int .i64 (O i 5), .int .i64 (O i 6), .int .i64 (O i 7), .int .i64 (O i 8), .int .i64 (O i 9), .int .i64 (O i 10), .int .i64 (O i 11), .slice wa lw cw, .slice ba lb cb, .int .i64 (O i 14), .int .i64 (O i 15), .int .i64 (O i 16), .int .i64 (O i 17), .int .i64 (O i 18), .int .i64 (O i 19), .int .i64 (O i 20), .int .i64 (O i 21)]) rfl rfl (by kernel_rfl) (by kernel_rfl) (by kernel_rfl) (fun _ _ _ h => h) (fun _ => rfl) rfl (fun w' hw' => run_la 47 (.tmp 36) rfl (x.add (i * 22)) (by kernel_rfl) [.int .i64 (O i 0), .int .i64 (O i 1), .int .i64 (O i 2), .int .i64 (O i 3), .int .i64 (O i 4), .int .i64 (O i 5), .int .i64 (O i 6), .int .i64 (O i 7), .int .i64 (O i 8), .int .i64 (O i 9), .int .i64 (O i 10), .int .i64 (O i 11), .slice wa lw cw, .slice ba lb cb, .int .i64 (O i 14), .int .i64 (O i 15), .int .i64 (O i 16), .int .i64 (O i 17), .int .i64 (O i 18), .int .i64 (O i 19), .int .i64 (O i 20), .int .i64 (O i 21)] _ (fun q v hq => (hw'.cell (World.block_lt_of_cell? _ _ (HC2.out q v hq))).trans (HC2.out q v hq)) Try.underlying47 rfl (by kernel_rfl)) ?_
  refine takeC 8 (v := .agg #[.int .i64 slo, .int .i64 shi]) rfl rfl (by kernel_rfl) (by kernel_rfl) (by kernel_rfl) (fun _ _ _ h => h) (fun _ => rfl) rfl (fun w' hw' => by have hc := (cells_at ((hw'.block _ (lt_of_heap hG1)).trans hG1)).1; go_simp) ?_
  refine stepK 1 HD.out (by kernel_rfl) rfl rfl 42 #[.slice va N vc] (by kernel_rfl) (HU.out _ wd (T2.out.below HD.out)) ?_
  rintro e w3 ⟨rfl, hb⟩
  have HD3 : Hid (Below w2.heap.size w2 w3) := btr HD.out hb
  clear hb HD T2 HU
  refine ⟨_, rfl, ?_⟩
  refine stepK 9 HD3.out (by kernel_rfl) rfl rfl 43 #[.agg #[.int .i64 (O i 0), .int .i64 (O i 1), .int .i64 (O i 2), .int .i64 (O i 3), .int .i64 (O i 4), .int .i64 (O i 5), .int .i64 (O i 6), .int .i64 (O i 7), .int .i64 (O i 8), .int .i64 (O i 9), .int .i64 (O i 10), .int .i64 (O i 11), .slice wa lw cw, .slice ba lb cb, .int .i64 (O i 14), .int .i64 (O i 15), .int .i64 (O i 16), .int .i64 (O i 17), .int .i64 (O i 18), .int .i64 (O i 19), .int .i64 (O i 20), .int .i64 (O i 21)], .agg #[.int .i64 slo, .int .i64 shi]] (by kernel_rfl) (HR.out w3) ?_
  rintro e w4 ⟨rfl, hb⟩
  have HD4 : Hid (Below w2.heap.size w2 w4) := btr HD3.out hb
  clear hb HD3 HR
  refine ⟨_, rfl, ?_⟩
  refine stepR 10 HD4.out (by kernel_rfl) rfl rfl (.int .i64 D) w4 (by rw [← HDe.out]; go_simp; rw [HDe.out, IntKind.wrap_i64]; omega) ?_
  refine stepR 11 HD4.out (by kernel_rfl) rfl rfl (.int .i64 D) w4 (by kernel_rfl) ?_
  refine doneC HD4.out (by kernel_rfl) ?_ _
  have S4 := S2.out.call HD4.out
  obtain ⟨c1, f1, z1, -⟩ := S4.rules
  clear S2 HD4 hG1 hG2 HC2 HDe
  go_wp2
  exact bodyPost_ret (v := .tuple #[.agg #[.int .i64 (bi - D), .int .i64 (bi + D)], .int .i64 0]) (by simp [results, Try.results16, go_sem, c1]) rfl ⟨rfl, S4.out2⟩
end Go.Proofs.Ytbogpgaifbjahaa

/- What Quick of package norm returns. -/
namespace Go.Proofs.Ytbogpgaifbjahaa
open Go.ChangeShapes Go.WideShapes Go.ChangeAt Go.RowKit
set_option linter.unusedVariables false
/-- What Quick answers: the ends and the error. -/
def quR (slo shi bi A R : Int) : Int × Int × Int := if vaB slo shi = true then (bi - A * R, bi + A * R, 0) else (0, 0, 30)
/-- What is known of an op that reduces. -/
theorem op_facts {h w c lo hi ot ch : Int} {oa : Option Addr} {on : Nat} {O : Nat → Nat → Int} {Z B : Nat → List Int} {W : World} (RL : List (Int × Int × Int)) (Rw : Int) (hR : gtR O h w c lo hi ot on = (0, 0, RL, Rw)) (i : Nat) (x : Addr) (wa : Option Addr) (lw cw : Nat) (ba : Option Addr) (lb cb : Nat) (x0 y0 z0 H V C : Int) (hF : Fnd W oa on O Z B RL i x wa lw cw ba lb cb x0 y0 z0 H V C) (hch : 1 ≤ ch ∧ ch ≤ C) :
    (siL (O i 0) (O i 4) (O i 5) (O i 6) (O i 7) (O i 8) (O i 9) (O i 10) (O i 11) x0 y0 z0 ch 0 (Z i)).length ≤ 512 ∧ (∀ t ∈ siL (O i 0) (O i 4) (O i 5) (O i 6) (O i 7) (O i 8) (O i 9) (O i 10) (O i 11) x0 y0 z0 ch 0 (Z i), -32768 ≤ t.1 ∧ t.1 ≤ 32767) ∧ I8 (O i 19) ∧ ((0 ≤ O i 8 ∧ O i 8 ≤ 31) ∧ (0 ≤ O i 9 ∧ O i 9 ≤ 31) ∧ (0 ≤ O i 10 ∧ O i 10 ≤ 31) ∧ (0 ≤ O i 11 ∧ O i 11 ≤ 31)) ∧ (-2147483648 ≤ biA (O i 0) ch (B i) ∧ biA (O i 0) ch (B i) ≤ 2147483647) := by
  have hSit := hF.2.2.2.2.2.2.2.2.2.1
  have hz := hF.2.2.2.2.2.1.2.2.2.1
  have hb := hF.2.2.2.2.2.2.1.2.2.2.1
  obtain ⟨f1, f2⟩ := siL_facts hSit hz hch 0
  obtain ⟨ja, jb, e1, hja, e3, hjb, hO⟩ := opd_of hR hF.1
  have hopd := (hO x0 y0 z0 H V C (by rw [← hF.2.2.2.2.2.2.2.1, e1, Int.toNat_natCast]) hF.2.2.2.2.2.2.2.2.1).1
  refine ⟨f1, fun t ht => (f2 t ht).1, ?_, side_nn hopd hSit.1.2, biA_bd hb⟩
  have := hopd.rz
  unfold rzB vlB at this; simp at this; exact ⟨this.2.1, this.2.2⟩
theorem quR_bd {slo shi bi A R : Int} (hA : 0 ≤ A ∧ A ≤ 33554432) (hR : vaB slo shi = true → 0 ≤ R ∧ R ≤ 128) (hb : -2147483648 ≤ bi ∧ bi ≤ 2147483647) : (-10000000000 ≤ (quR slo shi bi A R).1 ∧ (quR slo shi bi A R).1 ≤ 10000000000) ∧ (-10000000000 ≤ (quR slo shi bi A R).2.1 ∧ (quR slo shi bi A R).2.1 ≤ 10000000000) := by
  unfold quR
  split
  · rename_i g
    have := aw_bd hA (hR g)
    simp only
    omega
  · simp
theorem of_0 (h w c lo hi ot : Int) (oa : Option Addr) (on oc : Nat) (O : Nat → Nat → Int) (Z B : Nat → List Int) (W : World) (hL : LRow W oa on oc O Z B) (ch : Int) (RL : List (Int × Int × Int)) (Rw : Int) (hR : gtR O h w c lo hi ot on = (0, 0, RL, Rw)) (i : Nat) (x : Addr) (wa : Option Addr) (lw cw : Nat) (ba : Option Addr) (lb cb : Nat) (x0 y0 z0 H V C : Int) (hF : Fnd W oa on O Z B RL i x wa lw cw ba lb cb x0 y0 z0 H V C) (hch : 1 ≤ ch ∧ ch ≤ C) : ∀ W', Below W.heap.size W W' → Calls Try.prog 7 #[.agg #[.int .i64 h, .int .i64 w, .int .i64 c, .int .i64 lo, .int .i64 hi, .slice oa on oc, .int .i64 ot], .int .i64 ((i : Int) + 1), .int .i64 ch, .int .i64 0] W' fun e w' => (∃ v, e = .returned (.tuple #[v, .int .i64 (biA (O i 0) ch (B i)), .int .i64 0]) ∧ OTm w' W'.heap.size v (siL (O i 0) (O i 4) (O i 5) (O i 6) (O i 7) (O i 8) (O i 9) (O i 10) (O i 11) x0 y0 z0 ch 0 (Z i))) ∧ Below W'.heap.size W' w' := fun W' hb => by
  have hv := (vS_bd hF.2.2.2.2.2.2.2.2.2.1.2.2.1).1
  exact of_ok h w c lo hi ot oa on oc O Z B W' (hL.below hb) ch 0 RL Rw hR i x wa lw cw ba lb cb x0 y0 z0 H V C (hF.below hb) hch ⟨by omega, by omega⟩
theorem nqu_ok (h w c lo hi ot : Int) (oa : Option Addr) (on oc : Nat) (O : Nat → Nat → Int) (Z B : Nat → List Int) (W : World) (hL : LRow W oa on oc O Z B) (ch : Int) (RL : List (Int × Int × Int)) (Rw : Int) (hR : gtR O h w c lo hi ot on = (0, 0, RL, Rw)) (i : Nat) (x : Addr) (wa : Option Addr) (lw cw : Nat) (ba : Option Addr) (lb cb : Nat) (x0 y0 z0 H V C : Int) (hF : Fnd W oa on O Z B RL i x wa lw cw ba lb cb x0 y0 z0 H V C) (hch : 1 ≤ ch ∧ ch ≤ C) (slo shi : Int) : Calls Try.prog 16 #[.agg #[.int .i64 h, .int .i64 w, .int .i64 c, .int .i64 lo, .int .i64 hi, .slice oa on oc, .int .i64 ot], .int .i64 ((i : Int) + 1), .int .i64 ch, .agg #[.int .i64 slo, .int .i64 shi]] W fun e w' => e = .returned (.tuple #[.agg #[.int .i64 (quR slo shi (biA (O i 0) ch (B i)) (upS (siL (O i 0) (O i 4) (O i 5) (O i 6) (O i 7) (O i 8) (O i 9) (O i 10) (O i 11) x0 y0 z0 ch 0 (Z i)) - dnS (siL (O i 0) (O i 4) (O i 5) (O i 6) (O i 7) (O i 8) (O i 9) (O i 10) (O i 11) x0 y0 z0 ch 0 (Z i))) (rcV (O i 8) (O i 9) (O i 10) (O i 11) (O i 19) slo shi)).1, .int .i64 (quR slo shi (biA (O i 0) ch (B i)) (upS (siL (O i 0) (O i 4) (O i 5) (O i 6) (O i 7) (O i 8) (O i 9) (O i 10) (O i 11) x0 y0 z0 ch 0 (Z i)) - dnS (siL (O i 0) (O i 4) (O i 5) (O i 6) (O i 7) (O i 8) (O i 9) (O i 10) (O i 11) x0 y0 z0 ch 0 (Z i))) (rcV (O i 8) (O i 9) (O i 10) (O i 11) (O i 19) slo shi)).2.1], .int .i64 (quR slo shi (biA (O i 0) ch (B i)) (upS (siL (O i 0) (O i 4) (O i 5) (O i 6) (O i 7) (O i 8) (O i 9) (O i 10) (O i 11) x0 y0 z0 ch 0 (Z i)) - dnS (siL (O i 0) (O i 4) (O i 5) (O i 6) (O i 7) (O i 8) (O i 9) (O i 10) (O i 11) x0 y0 z0 ch 0 (Z i))) (rcV (O i 8) (O i 9) (O i 10) (O i 11) (O i 19) slo shi)).2.2]) ∧ Below W.heap.size W w' := by
  obtain ⟨f1, f2, f3, ⟨f4, f5, f6, f7⟩, f8⟩ := op_facts RL Rw hR i x wa lw cw ba lb cb x0 y0 z0 H V C hF hch
  have hO := of_0 h w c lo hi ot oa on oc O Z B W hL ch RL Rw hR i x wa lw cw ba lb cb x0 y0 z0 H V C hF hch
  unfold quR
  cases hs : vaB slo shi with
  | false =>
    rw [if_neg (by decide)]
    exact qu_30 h w c lo hi ot _ ch oa on oc W slo shi _ _ hO hs
  | true =>
    rw [if_pos rfl]
    have hva := vaB_yes hs
    have hsg := sg_all f2 f1
    have hx := hF.2.1
    subst hx
    exact qu_ok h w c lo hi ot ch x on oc i W slo shi _ _ _ _ O wa lw cw ba lb cb hF.1 hL.1 hL.2.1 hF.2.2.2.2.1 hO (fun v W hv => nuns_any v _ W hv f1 f2) (fun W => nrch_any (O i 0) (O i 1) (O i 2) (O i 3) (O i 4) (O i 5) (O i 6) (O i 7) (O i 8) (O i 9) (O i 10) (O i 11) wa lw cw ba lb cb (O i 14) (O i 15) (O i 16) (O i 17) (O i 18) (O i 19) (O i 20) (O i 21) slo shi W f4 f5 f6 f7 f3 hva) hs (by omega) (rcV_bd (by omega) (by omega) f3) f8
end Go.Proofs.Ytbogpgaifbjahaa
