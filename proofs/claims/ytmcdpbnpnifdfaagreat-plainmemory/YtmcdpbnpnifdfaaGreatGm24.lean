/- What Of of package terms returns. What sum of package plain returns. What alone of package plain returns: a model of one op. What greatestUnder and greatest of package plain return. -/
import Derived.Test.YtmcdpbnpnifdfaaGreatGr14
import Derived.Test.YtmcdpbnpnifdfaaGreatGm21
import Derived.Test.YtmcdpbnpnifdfaaGreatGm23
import Derived.Deep.RegionLawGrows
/- What Of of package terms returns. -/
namespace Go.Proofs.YtmcdpbnpnifdfaaGreat
open Go.ChangeShapes Go.WideShapes Go.ChangeAt Go.RowKit
set_option linter.unusedVariables false
set_option maxRecDepth 100000 in
set_option maxHeartbeats 4000000 in
theorem of_ok (h w c lo hi ot : Int) (oa : Option Addr) (on oc : Nat) (O : Nat → Nat → Int) (Z B : Nat → List Int) (W : World) (hL : LRow W oa on oc O Z B) (ch at' : Int) (RL : List (Int × Int × Int)) (Rw : Int) (hR : gtR O h w c lo hi ot on = (0, 0, RL, Rw)) (i : Nat) (x : Addr) (wa : Option Addr) (lw cw : Nat) (ba : Option Addr) (lb cb : Nat) (x0 y0 z0 H V C : Int) (hF : Fnd W oa on O Z B RL i x wa lw cw ba lb cb x0 y0 z0 H V C) (hch : 1 ≤ ch ∧ ch ≤ C) (hat : 0 ≤ at' ∧ at' < H * V) :
    Calls Tryz.prog 61 #[.agg #[.int .i64 h, .int .i64 w, .int .i64 c, .int .i64 lo, .int .i64 hi, .slice oa on oc, .int .i64 ot], .int .i64 ((i : Int) + 1), .int .i64 ch, .int .i64 at'] W fun e w' => (∃ v, e = .returned (.tuple #[v, .int .i64 (biA (O i 0) ch (B i)), .int .i64 0]) ∧ OTm w' W.heap.size v (siL (O i 0) (O i 4) (O i 5) (O i 6) (O i 7) (O i 8) (O i 9) (O i 10) (O i 11) x0 y0 z0 ch at' (Z i))) ∧ Below W.heap.size W w' := by
  have s0 := (St.start W).new (c := #[.int .i64 h, .int .i64 w, .int .i64 c, .int .i64 lo, .int .i64 hi, .slice oa on oc, .int .i64 ot]) (t := 26)
  have hSit : Hid (Sit (O i 0) (O i 4) (O i 5) (O i 6) (O i 7) (O i 8) (O i 9) (O i 10) (O i 11) x0 y0 z0 H V C lw lb) := hF.2.2.2.2.2.2.2.2.2.1
  have hrZ : Hid (IRow .i16 W wa lw cw (Z i)) := hF.2.2.2.2.2.1
  have hrB : Hid (IRow .i32 W ba lb cb (B i)) := hF.2.2.2.2.2.2.1
  have hK : Hid (∀ W', Below W.heap.size W W' → _) := fun W' hb => find_ok h w c lo hi ot oa on oc O Z B W' (hL.below hb) RL Rw hR i x wa lw cw ba lb cb x0 y0 z0 H V C (hF.below hb)
  have hPo : Hid (∀ (w1 : World), _) := fun w1 => tpos_any (O i 0) (O i 1) (O i 2) (O i 3) (O i 4) (O i 5) (O i 6) (O i 7) (O i 8) (O i 9) (O i 10) (O i 11) wa lw cw ba lb cb (O i 14) (O i 15) (O i 16) (O i 17) (O i 18) (O i 19) (O i 20) (O i 21) x0 y0 z0 H V C _ _ (heap_alloc_new w1 _) hSit.out.2.2.1
  have hTe : Hid (∀ (w' : World) (r : Nat), w'.heap[r]? = some (.cells #[.int .i64 (O i 0), .int .i64 (O i 1), .int .i64 (O i 2), .int .i64 (O i 3), .int .i64 (O i 4), .int .i64 (O i 5), .int .i64 (O i 6), .int .i64 (O i 7), .int .i64 (O i 8), .int .i64 (O i 9), .int .i64 (O i 10), .int .i64 (O i 11), .slice wa lw cw, .slice ba lb cb, .int .i64 (O i 14), .int .i64 (O i 15), .int .i64 (O i 16), .int .i64 (O i 17), .int .i64 (O i 18), .int .i64 (O i 19), .int .i64 (O i 20), .int .i64 (O i 21), .int .i64 x0, .int .i64 y0, .int .i64 z0, .int .i64 H, .int .i64 V, .int .i64 C] 134 (0, 0)) → Below W.heap.size W w' → _) := fun w' r hr hb => terms_any (O i 0) (O i 1) (O i 2) (O i 3) (O i 4) (O i 5) (O i 6) (O i 7) (O i 8) (O i 9) (O i 10) (O i 11) wa lw cw ba lb cb (O i 14) (O i 15) (O i 16) (O i 17) (O i 18) (O i 19) (O i 20) (O i 21) x0 y0 z0 H V C r w' hr (Z i) (hrZ.out.below hb) hSit.out ch at' hch hat
  have hBi : Hid (∀ (w' : World) (r : Nat), w'.heap[r]? = some (.cells #[.int .i64 (O i 0), .int .i64 (O i 1), .int .i64 (O i 2), .int .i64 (O i 3), .int .i64 (O i 4), .int .i64 (O i 5), .int .i64 (O i 6), .int .i64 (O i 7), .int .i64 (O i 8), .int .i64 (O i 9), .int .i64 (O i 10), .int .i64 (O i 11), .slice wa lw cw, .slice ba lb cb, .int .i64 (O i 14), .int .i64 (O i 15), .int .i64 (O i 16), .int .i64 (O i 17), .int .i64 (O i 18), .int .i64 (O i 19), .int .i64 (O i 20), .int .i64 (O i 21), .int .i64 x0, .int .i64 y0, .int .i64 z0, .int .i64 H, .int .i64 V, .int .i64 C] 134 (0, 0)) → Below W.heap.size W w' → _) := fun w' r hr hb => tbias_any (O i 0) (O i 1) (O i 2) (O i 3) (O i 4) (O i 5) (O i 6) (O i 7) (O i 8) (O i 9) (O i 10) (O i 11) wa lw cw ba lb cb (O i 14) (O i 15) (O i 16) (O i 17) (O i 18) (O i 19) (O i 20) (O i 21) x0 y0 z0 H V C r w' hr (B i) (hrB.out.below hb) hSit.out ch hch
  obtain ⟨hv, ehv⟩ : ∃ hv, H * V = hv := ⟨_, rfl⟩
  rw [ehv] at hat hPo
  obtain ⟨TL, hTL⟩ : ∃ TL, siL (O i 0) (O i 4) (O i 5) (O i 6) (O i 7) (O i 8) (O i 9) (O i 10) (O i 11) x0 y0 z0 ch at' (Z i) = TL := ⟨_, rfl⟩
  obtain ⟨bi, hbi⟩ : ∃ bi, biA (O i 0) ch (B i) = bi := ⟨_, rfl⟩
  rw [hTL] at hTe ⊢
  rw [hbi] at hBi ⊢
  clear hF hR hL ehv hTL hbi hrZ hrB
  go_enter Tryz.func61, Tryz.ntmps61
  go_wp2_with fail
  refine (hK.out _ s0.below).mono ?_
  rintro e w1 ⟨rfl, hb⟩
  have s1 := (s0.call hb).new (c := #[.int .i64 (O i 0), .int .i64 (O i 1), .int .i64 (O i 2), .int .i64 (O i 3), .int .i64 (O i 4), .int .i64 (O i 5), .int .i64 (O i 6), .int .i64 (O i 7), .int .i64 (O i 8), .int .i64 (O i 9), .int .i64 (O i 10), .int .i64 (O i 11), .slice wa lw cw, .slice ba lb cb, .int .i64 (O i 14), .int .i64 (O i 15), .int .i64 (O i 16), .int .i64 (O i 17), .int .i64 (O i 18), .int .i64 (O i 19), .int .i64 (O i 20), .int .i64 (O i 21), .int .i64 x0, .int .i64 y0, .int .i64 z0, .int .i64 H, .int .i64 V, .int .i64 C]) (t := 134)
  have S1 : Hid (St W _ _) := s1
  clear hb s1
  go_wp2_with (first
    | (refine wpList_st_new rfl 134 (.tmp 11) (.tmp 17) rfl w1 _ #[.int .i64 (O i 0), .int .i64 (O i 1), .int .i64 (O i 2), .int .i64 (O i 3), .int .i64 (O i 4), .int .i64 (O i 5), .int .i64 (O i 6), .int .i64 (O i 7), .int .i64 (O i 8), .int .i64 (O i 9), .int .i64 (O i 10), .int .i64 (O i 11), .slice wa lw cw, .slice ba lb cb, .int .i64 (O i 14), .int .i64 (O i 15), .int .i64 (O i 16), .int .i64 (O i 17), .int .i64 (O i 18), .int .i64 (O i 19), .int .i64 (O i 20), .int .i64 (O i 21), .int .i64 x0, .int .i64 y0, .int .i64 z0, .int .i64 H, .int .i64 V, .int .i64 C] rfl rfl (by kernel_rfl) rfl (by simp [Value.oneCell']) ?_)
    | (go_at_call 83; refine (tchan_any (O i 0) (O i 1) (O i 2) (O i 3) (O i 4) (O i 5) (O i 6) (O i 7) (O i 8) (O i 9) (O i 10) (O i 11) wa lw cw ba lb cb (O i 14) (O i 15) (O i 16) (O i 17) (O i 18) (O i 19) (O i 20) (O i 21) x0 y0 z0 H V C _ _ (heap_alloc_new w1 _)).mono ?_; rintro e w2 ⟨rfl, hw2⟩; have hw3 := hw2.symm; subst hw3; clear hw2)
    | (go_at_call 84; refine (hPo.out w1).mono ?_; rintro e w2 ⟨rfl, n, hw2⟩; have S2 : Hid (St W w2 _) := (by rw [hw2]; exact S1.out.call (dbel _ n)); clear hw2 S1))
  refine (hTe.out _ _ S2.out.h1 S2.out.below).mono ?_
  rintro e w3 ⟨⟨v, rfl, hO⟩, hb3⟩
  have S3 : Hid (St W w3 _) := S2.out.call hb3
  have hz2 := S2.out.below.size
  have HO : Hid (OTm w3 W.heap.size v TL) := hO.base hz2
  obtain ⟨va, vc, rfl⟩ := hO.slice
  clear hO hb3 S2
  go_wp2_with fail
  refine (hBi.out _ _ S3.out.h1 S3.out.below).mono ?_
  rintro e w4 ⟨rfl, hw4⟩
  have hw5 := hw4.symm
  subst hw5
  clear hw4
  go_wp2
  exact bodyPost_ret (v := .tuple #[.slice va TL.length vc, .int .i64 bi, .int .i64 0]) (by simp [results, Tryz.results61, go_sem, *]) rfl ⟨⟨_, rfl, HO.out⟩, S3.out.below⟩
end Go.Proofs.YtmcdpbnpnifdfaaGreat

/- What sum of package plain returns. -/
namespace Go.Proofs.YtmcdpbnpnifdfaaGreat
open Go.ChangeShapes Go.WideShapes Go.ChangeAt Go.RowKit
set_option linter.unusedVariables false
/-! ### A sum -/
set_option maxHeartbeats 2000000 in
theorem sum_any (k a b m kh kw sh sw tp lf bt rt : Int) (wa : Option Addr) (lw wc : Nat) (ba : Option Addr) (lb bc : Nat) (sm ss um us z p lo hi h w c H V C : Int) (r : Nat) (W : World) (hr : W.heap[r]? = some (.cells #[.int .i64 k, .int .i64 a, .int .i64 b, .int .i64 m, .int .i64 kh, .int .i64 kw, .int .i64 sh, .int .i64 sw, .int .i64 tp, .int .i64 lf, .int .i64 bt, .int .i64 rt, .slice wa lw wc, .slice ba lb bc, .int .i64 sm, .int .i64 ss, .int .i64 um, .int .i64 us, .int .i64 z, .int .i64 p, .int .i64 lo, .int .i64 hi, .int .i64 h, .int .i64 w, .int .i64 c, .int .i64 H, .int .i64 V, .int .i64 C] 58 (0, 0))) (v : Value) (TL : List (Int × Int)) (hT : TV W v TL) (ad : Option Addr) (n cap : Nat) (xs : List Int) (hX : IRow .i8 W ad n cap xs) (hp : I8 p) (hl : TL.length ≤ 512) (ht : ∀ t ∈ TL, (-32768 ≤ t.1 ∧ t.1 ≤ 32767) ∧ (t.2 = -1 ∨ (0 ≤ t.2 ∧ t.2 < (n : Int)))) :
    Calls Tryz.prog 62 #[.pointer (some ⟨r, 0, none⟩), v, .slice ad n cap] W fun e w' => e = .returned (.int .i64 (smV p xs TL)) ∧ Below W.heap.size W w' := by
  obtain ⟨va, vc, rfl, v1, v2, v3⟩ := hT
  have hrz := lt_of_heap hr
  obtain ⟨N, hN⟩ : ∃ N, TL.length = N := ⟨_, rfl⟩
  rw [hN] at v1 v3 hl ⊢
  have HV : Hid (0 < N → _) := v3
  have HR : Hid (W.heap[r]? = some (.cells #[.int .i64 k, .int .i64 a, .int .i64 b, .int .i64 m, .int .i64 kh, .int .i64 kw, .int .i64 sh, .int .i64 sw, .int .i64 tp, .int .i64 lf, .int .i64 bt, .int .i64 rt, .slice wa lw wc, .slice ba lb bc, .int .i64 sm, .int .i64 ss, .int .i64 um, .int .i64 us, .int .i64 z, .int .i64 p, .int .i64 lo, .int .i64 hi, .int .i64 h, .int .i64 w, .int .i64 c, .int .i64 H, .int .i64 V, .int .i64 C] 58 (0, 0))) := hr
  have HX : Hid (IRow .i8 W ad n cap xs) := hX
  have HT : Hid (∀ t ∈ TL, (-32768 ≤ t.1 ∧ t.1 ≤ 32767) ∧ (t.2 = -1 ∨ (0 ≤ t.2 ∧ t.2 < (n : Int)))) := ht
  have HN : Hid (TL.length = N) := hN
  have HP : Hid (I8 p) := hp
  unfold maxLen at v2
  clear hr hX ht v3 hN hp
  go_enter Tryz.func62, Tryz.ntmps62
  go_wp2
  go_loopw [7, 13] (fun s i wr => ∃ y : Nat, y ≤ N ∧ i = .int .i64 y ∧ s = .int .i64 (smV p xs (TL.take y)) ∧ Below W.heap.size W wr) (fun _ i _ => N - (intOf i).toNat)
  case atStart => exact ⟨0, Nat.zero_le _, rfl, rfl, Below.refl _ _⟩
  case round =>
    obtain ⟨y, hy, rfl, rfl, hb⟩ := hrel
    by_cases hlt : y < N
    · obtain ⟨g, rfl, hc⟩ := HV.out (by omega)
      obtain ⟨q1, q2⟩ := TV.at hc (show y < TL.length by rw [HN.out]; exact hlt)
      obtain ⟨A1, A2, hA⟩ : ∃ A1 A2, TL.getD y (0, 0) = (A1, A2) := ⟨_, _, rfl⟩
      rw [hA] at q1 q2
      simp only at q1 q2
      have hmem : (A1, A2) ∈ TL := by
        rw [← hA, List.getD_eq_getElem?_getD, List.getElem?_eq_getElem (by rw [HN.out]; exact hlt)]
        exact List.getElem_mem _
      obtain ⟨⟨w1, w2⟩, hat⟩ := HT.out _ hmem
      have hS := smV_take (p := p) (x := xs) (show y < TL.length by rw [HN.out]; exact hlt) hA
      have b1 := smV_bd HP.out HX.out.i8 (TL.take y) (take_mem (fun t ht => (HT.out t ht).1) y)
      have b2 := smT_bd HP.out HX.out.i8 (t := (A1, A2)) ⟨w1, w2⟩
      have hty : (TL.take y).length ≤ 512 := by rw [List.length_take]; omega
      have p1 := (hb.cell (World.block_lt_of_cell? W _ q1)).trans q1
      have p2 := (hb.cell (World.block_lt_of_cell? W _ q2)).trans q2
      obtain ⟨c1, f1, z1⟩ := cells_at ((hb.block r hrz).trans HR.out)
      simp only at w1 w2 hat
      obtain ⟨sv, hsv⟩ : ∃ sv, smV p xs (TL.take y) = sv := ⟨_, rfl⟩
      obtain ⟨tv, htv⟩ : ∃ tv, smT p xs (A1, A2) = tv := ⟨_, rfl⟩
      rw [hsv] at b1 hS ⊢
      rw [htv] at b2 hS
      have b1' : -2147483648 ≤ sv ∧ sv ≤ 2147483648 := by omega
      have HS : Hid (smV p xs (TL.take (y + 1)) = sv + tv) := hS
      clear hS b1 q1 q2 hsv hmem hc hA HV
      by_cases neg : A2 < 0
      · have e2 : tv = A1 * p := by rw [← htv]; unfold smT; rw [if_pos neg]
        have neg' : ¬ 0 ≤ A2 := by omega
        clear htv hat
        subst e2
        obtain ⟨pp, hpp⟩ : ∃ pp, A1 * p = pp := ⟨_, rfl⟩
        rw [hpp] at b2 HS
        go_wp2
        go_roundw
        case rel => exact ⟨y + 1, by omega, by go_num, by rw [HS.out], btr hb (bal _ _)⟩
        case measure => simp [intOf]; omega
      · obtain ⟨j, rfl⟩ : ∃ j : Nat, A2 = (j : Int) := ⟨A2.toNat, by omega⟩
        have hj : j < n := by omega
        obtain ⟨x, u, rfl, hu, hw8, hz, -⟩ := (HX.out.below hb).at hj
        obtain ⟨u1, u2⟩ := wf_i8 hw8
        have hu2 : ∀ o, (wr.alloc o).cell? (x.add j) = some (.int .i8 u) := fun o => ((bal wr o).cell (World.block_lt_of_cell? wr _ hu)).trans hu
        have e2 : tv = A1 * u := by rw [← htv]; unfold smT; simp only; rw [if_neg (by omega), Int.toNat_natCast, List.getD_eq_getElem?_getD, hz]; rfl
        clear htv hat hz hw8 neg
        subst e2
        obtain ⟨pp, hpp⟩ : ∃ pp, A1 * u = pp := ⟨_, rfl⟩
        rw [hpp] at b2 HS
        go_wp2
        go_roundw
        case rel => exact ⟨y + 1, by omega, by go_num, by rw [HS.out], btr hb (bal _ _)⟩
        case measure => simp [intOf]; omega
    · obtain rfl : y = N := by omega
      have e : Hid (smV p xs (TL.take y) = smV p xs TL) := by unfold Hid; rw [← HN.out, List.take_length]
      clear HV
      go_wp2
      go_ret
      exact ⟨ret1 e.out, hb⟩
end Go.Proofs.YtmcdpbnpnifdfaaGreat

/- What alone of package plain returns: a model of one op. -/
namespace Go.Proofs.YtmcdpbnpnifdfaaGreat
open Go.ChangeShapes Go.WideShapes Go.ChangeAt Go.RowKit
set_option linter.unusedVariables false
/-! ### The op alone -/
theorem lcells {w : World} {B : Nat} {cs : Array Value} {T : TypeId} (h : w.heap[B]? = some (.cells cs T (0, 0))) {l : List Value} (hl : ∀ (q : Nat) (v : Value), l[q]? = some v → cs[q]? = some v) : ∀ (q : Nat) (v : Value), l[q]? = some v → w.cell? ((⟨B, 0, none⟩ : Addr).add q) = some v := fun q v hq => by
  rw [Addr.add_lit, Nat.zero_add, (cells_at h).1]
  exact hl q v hq
theorem fget (l r : List Value) : ∀ (q : Nat) (v : Value), l[q]? = some v → (l ++ r).toArray[q]? = some v := fun q v hq => by
  have := (List.getElem?_eq_some_iff.1 hq).1
  rw [List.getElem?_toArray, List.getElem?_append_left this]
  exact hq
/-- An operation that yields a value and leaves a world, both said. -/
theorem wpList_run1 {P : Program} {ops : Array Oper} {rest : List Oper} {o : Oper} {a : Act} {w : World} {Q : Exit → Act → World → Prop} (hg : o.guard = none) (dst : Option Tmp) (hdst : o.dst = dst)
    (v : Value) (w' : World) (hrun : (execOp a.eval o).run P w = .ok (.value v) w') (h : wpList P ops Q rest (a.put dst v) w') : wpList P ops Q (o :: rest) a w := by
  subst hdst
  refine wpList_plain hg fun K hK => ?_
  unfold Oper.wp
  rw [hrun, Oper.upon_value]
  exact hK _ _ h
theorem wp_run1 {P : Program} {o : Oper} {a : Act} {w w' : World} {v : Value} {K : Act → World → Prop} {Q : Exit → Act → World → Prop} (hrun : (execOp a.eval o).run P w = .ok (.value v) w') (h : K (a.put o.dst v) w') : o.wp P a w K Q := by
  unfold Oper.wp
  rw [hrun, Oper.upon_value]
  exact h
theorem stepW {P : Program} {ops : Array Oper} {md : Region.Mode} {C : World → Prop} {Q : Exit → Act → World → Prop} (i : Nat) {o : Oper} {fuel : Nat} {listed : Array Bool} {a : Act} {w : World} (hC : C w) (hr : Region.ready md ops listed = [i]) (ho : ops[i]? = some o) (hg : o.guard = none)
    (h : ∀ K : Act → World → Prop, (∀ a w, wpAnyC Fence.wide 3 P md ops C Q fuel (listed.setIfInBounds i true) a w → K a w) → o.wp P a w K Q) : wpAnyC Fence.wide 3 P md ops C Q (fuel + 1) listed a w :=
  stepC i hC hr ho fun K hK => step_wp hg (h K hK)
theorem stepR {P : Program} {ops : Array Oper} {md : Region.Mode} {C : World → Prop} {Q : Exit → Act → World → Prop} (i : Nat) {o : Oper} {fuel : Nat} {listed : Array Bool} {a : Act} {w : World} (hC : C w) (hr : Region.ready md ops listed = [i]) (ho : ops[i]? = some o) (hg : o.guard = none)
    (v : Value) (w' : World) (hrun : (execOp a.eval o).run P w = .ok (.value v) w') (h : wpAnyC Fence.wide 3 P md ops C Q fuel (listed.setIfInBounds i true) (a.put o.dst v) w') : wpAnyC Fence.wide 3 P md ops C Q (fuel + 1) listed a w :=
  stepW i hC hr ho hg fun K hK => wp_run1 hrun (hK _ _ h)
/-- A call. -/
theorem stepK {P : Program} {ops : Array Oper} {md : Region.Mode} {C : World → Prop} {Q : Exit → Act → World → Prop} (i : Nat) {o : Oper} {fuel : Nat} {listed : Array Bool} {a : Act} {w : World} (hC : C w) (hr : Region.ready md ops listed = [i]) (ho : ops[i]? = some o) (hg : o.guard = none)
    (f : FuncId) (args : Array Value) (hrun : (execOp a.eval o).run P w = .ok (.enter f args) w) {R : Ending → World → Prop} (hcall : Calls P f args w R)
    (h : ∀ e w', R e w' → ∃ v, e = .returned v ∧ wpAnyC Fence.wide 3 P md ops C Q fuel (listed.setIfInBounds i true) (a.put o.dst v) w') : wpAnyC Fence.wide 3 P md ops C Q (fuel + 1) listed a w :=
  stepW i hC hr ho hg fun K hK => by
    unfold Oper.wp
    rw [hrun]
    refine Calls.mono hcall fun e w' he => ?_
    obtain ⟨v, rfl, hv⟩ := h e w' he
    exact hK _ _ hv
theorem stepS {P : Program} {ops : Array Oper} {md : Region.Mode} {C : World → Prop} {Q : Exit → Act → World → Prop} (i : Nat) {o : Oper} {fuel : Nat} {listed : Array Bool} {a : Act} {w : World} (hC : C w) (hr : Region.ready md ops listed = [i]) (ho : ops[i]? = some o) (hg : o.guard = none)
    (ty : TypeId) (x y : Operand) (hop : o.op = .store ty x y) (g : Nat) (cells : Array Value) (hx : a.eval x = .pointer (some ⟨g, 0, none⟩)) (hy : a.eval y = .agg cells) (t : TypeId) (old : Array Value) (hh : w.heap[g]? = some (.cells old t (0, 0))) (hi : (P.info? ty).map (·.size) = some cells.size) (hold : old.size = cells.size) (h1 : cells.all (·.oneCell') = true)
    (h : wpAnyC Fence.wide 3 P md ops C Q fuel (listed.setIfInBounds i true) (a.put o.dst undef) (w.setRow g cells)) : wpAnyC Fence.wide 3 P md ops C Q (fuel + 1) listed a w :=
  stepW i hC hr ho hg fun K hK => wp_store_row ty x y hop g cells hx hy t old hh hi hold h1 (hK _ _ h)
set_option maxRecDepth 100000 in
set_option maxHeartbeats 8000000 in
theorem alone_any (k a b m kh kw sh sw tp lf bt rt : Int) (wa : Option Addr) (lw wc : Nat) (ba : Option Addr) (lb bc : Nat) (sm ss um us z p lo hi h w c H V C : Int) (r : Nat) (W : World) (hr : W.heap[r]? = some (.cells #[.int .i64 k, .int .i64 a, .int .i64 b, .int .i64 m, .int .i64 kh, .int .i64 kw, .int .i64 sh, .int .i64 sw, .int .i64 tp, .int .i64 lf, .int .i64 bt, .int .i64 rt, .slice wa lw wc, .slice ba lb bc, .int .i64 sm, .int .i64 ss, .int .i64 um, .int .i64 us, .int .i64 z, .int .i64 p, .int .i64 lo, .int .i64 hi, .int .i64 h, .int .i64 w, .int .i64 c, .int .i64 H, .int .i64 V, .int .i64 C] 58 (0, 0))) :
    Calls Tryz.prog 60 #[.pointer (some ⟨r, 0, none⟩)] W fun e w' => ∃ g, e = .returned (.agg #[.int .i64 h, .int .i64 w, .int .i64 c, .int .i64 0, .int .i64 0, .slice (some ⟨g, 0, none⟩) 1 1, .int .i64 0]) ∧ w'.heap[g]? = some (.cells #[.int .i64 k, .int .i64 0, .int .i64 b, .int .i64 m, .int .i64 kh, .int .i64 kw, .int .i64 sh, .int .i64 sw, .int .i64 tp, .int .i64 lf, .int .i64 bt, .int .i64 rt, .slice wa lw wc, .slice ba lb bc, .int .i64 sm, .int .i64 ss, .int .i64 um, .int .i64 us, .int .i64 z, .int .i64 p, .int .i64 lo, .int .i64 hi] 49 (0, 0)) ∧ W.heap.size ≤ g ∧ Below W.heap.size W w' := by
  have hrz := lt_of_heap hr
  have s0 := (St.start W).new (c := #[.int .i64 0, .int .i64 0, .int .i64 0, .int .i64 0, .int .i64 0, .slice none 0 0, .int .i64 0]) (t := 26)
  have hr0 := (s0.below.block r hrz).trans hr
  have HL : Hid (∀ q v, [.int .i64 k, .int .i64 a, .int .i64 b, .int .i64 m, .int .i64 kh, .int .i64 kw, .int .i64 sh, .int .i64 sw, .int .i64 tp, .int .i64 lf, .int .i64 bt, .int .i64 rt, .slice wa lw wc, .slice ba lb bc, .int .i64 sm, .int .i64 ss, .int .i64 um, .int .i64 us, .int .i64 z, .int .i64 p, .int .i64 lo, .int .i64 hi][q]? = some v → (W.alloc (.cells #[.int .i64 0, .int .i64 0, .int .i64 0, .int .i64 0, .int .i64 0, .slice none 0 0, .int .i64 0] 26)).cell? ((⟨r, 0, none⟩ : Addr).add q) = some v) := lcells hr0 (fget [.int .i64 k, .int .i64 a, .int .i64 b, .int .i64 m, .int .i64 kh, .int .i64 kw, .int .i64 sh, .int .i64 sw, .int .i64 tp, .int .i64 lf, .int .i64 bt, .int .i64 rt, .slice wa lw wc, .slice ba lb bc, .int .i64 sm, .int .i64 ss, .int .i64 um, .int .i64 us, .int .i64 z, .int .i64 p, .int .i64 lo, .int .i64 hi] [.int .i64 h, .int .i64 w, .int .i64 c, .int .i64 H, .int .i64 V, .int .i64 C])
  have HR : Hid (W.heap[r]? = some (.cells #[.int .i64 k, .int .i64 a, .int .i64 b, .int .i64 m, .int .i64 kh, .int .i64 kw, .int .i64 sh, .int .i64 sw, .int .i64 tp, .int .i64 lf, .int .i64 bt, .int .i64 rt, .slice wa lw wc, .slice ba lb bc, .int .i64 sm, .int .i64 ss, .int .i64 um, .int .i64 us, .int .i64 z, .int .i64 p, .int .i64 lo, .int .i64 hi, .int .i64 h, .int .i64 w, .int .i64 c, .int .i64 H, .int .i64 V, .int .i64 C] 58 (0, 0))) := hr
  have s1 := s0.new (c := #[.int .i64 k, .int .i64 a, .int .i64 b, .int .i64 m, .int .i64 kh, .int .i64 kw, .int .i64 sh, .int .i64 sw, .int .i64 tp, .int .i64 lf, .int .i64 bt, .int .i64 rt, .slice wa lw wc, .slice ba lb bc, .int .i64 sm, .int .i64 ss, .int .i64 um, .int .i64 us, .int .i64 z, .int .i64 p, .int .i64 lo, .int .i64 hi]) (t := 49)
  simp only [World.size_alloc] at s1
  have S1 : Hid (St W _ _) := s1
  clear hr hr0 s0 s1
  go_enter Tryz.func60, Tryz.ntmps60
  go_upto_region 1 with fail
  obtain ⟨w0, hw0⟩ : ∃ w0, W.alloc (.cells #[.int .i64 0, .int .i64 0, .int .i64 0, .int .i64 0, .int .i64 0, .slice none 0 0, .int .i64 0] 26) = w0 := ⟨_, rfl⟩
  rw [hw0] at HL S1 ⊢
  have hz0 : w0.heap.size = W.heap.size + 1 := by rw [← hw0]; simp
  rw [← hz0] at S1
  have HZ0 : Hid (w0.heap.size = W.heap.size + 1) := hz0
  clear hw0 hz0
  obtain ⟨vo, hvo⟩ : ∃ vo, Value.agg #[.int .i64 k, .int .i64 a, .int .i64 b, .int .i64 m, .int .i64 kh, .int .i64 kw, .int .i64 sh, .int .i64 sw, .int .i64 tp, .int .i64 lf, .int .i64 bt, .int .i64 rt, .slice wa lw wc, .slice ba lb bc, .int .i64 sm, .int .i64 ss, .int .i64 um, .int .i64 us, .int .i64 z, .int .i64 p, .int .i64 lo, .int .i64 hi] = vo := ⟨_, rfl⟩
  have HVO : Hid (Value.agg #[.int .i64 k, .int .i64 a, .int .i64 b, .int .i64 m, .int .i64 kh, .int .i64 kw, .int .i64 sh, .int .i64 sw, .int .i64 tp, .int .i64 lf, .int .i64 bt, .int .i64 rt, .slice wa lw wc, .slice ba lb bc, .int .i64 sm, .int .i64 ss, .int .i64 um, .int .i64 us, .int .i64 z, .int .i64 p, .int .i64 lo, .int .i64 hi] = vo) := hvo
  go_upto_region 2 with ((refine wpList_load_any rfl 49 (.tmp 6) rfl _ rfl [.int .i64 k, .int .i64 a, .int .i64 b, .int .i64 m, .int .i64 kh, .int .i64 kw, .int .i64 sh, .int .i64 sw, .int .i64 tp, .int .i64 lf, .int .i64 bt, .int .i64 rt, .slice wa lw wc, .slice ba lb bc, .int .i64 sm, .int .i64 ss, .int .i64 um, .int .i64 us, .int .i64 z, .int .i64 p, .int .i64 lo, .int .i64 hi] _ HL.out Tryz.underlying49 rfl (by kernel_rfl) ?_; (show wpList _ _ _ _ (Act.put _ _ (Value.agg #[.int .i64 k, .int .i64 a, .int .i64 b, .int .i64 m, .int .i64 kh, .int .i64 kw, .int .i64 sh, .int .i64 sw, .int .i64 tp, .int .i64 lf, .int .i64 bt, .int .i64 rt, .slice wa lw wc, .slice ba lb bc, .int .i64 sm, .int .i64 ss, .int .i64 um, .int .i64 us, .int .i64 z, .int .i64 p, .int .i64 lo, .int .i64 hi])) _); rw [hvo]; clear hvo; refine wpList_run1 rfl (some 3) rfl (.pointer (some ⟨w0.heap.size, 0, none⟩)) (w0.alloc (.cells #[.int .i64 0, .int .i64 0, .int .i64 0, .int .i64 0, .int .i64 0, .int .i64 0, .int .i64 0, .int .i64 0, .int .i64 0, .int .i64 0, .int .i64 0, .int .i64 0, .slice none 0 0, .slice none 0 0, .int .i64 0, .int .i64 0, .int .i64 0, .int .i64 0, .int .i64 0, .int .i64 0, .int .i64 0, .int .i64 0] 49)) (by kernel_rfl) ?_; refine wpList_st_new rfl 49 (.tmp 3) (.tmp 7) rfl w0 #[.int .i64 0, .int .i64 0, .int .i64 0, .int .i64 0, .int .i64 0, .int .i64 0, .int .i64 0, .int .i64 0, .int .i64 0, .int .i64 0, .int .i64 0, .int .i64 0, .slice none 0 0, .slice none 0 0, .int .i64 0, .int .i64 0, .int .i64 0, .int .i64 0, .int .i64 0, .int .i64 0, .int .i64 0, .int .i64 0] #[.int .i64 k, .int .i64 a, .int .i64 b, .int .i64 m, .int .i64 kh, .int .i64 kw, .int .i64 sh, .int .i64 sw, .int .i64 tp, .int .i64 lf, .int .i64 bt, .int .i64 rt, .slice wa lw wc, .slice ba lb bc, .int .i64 sm, .int .i64 ss, .int .i64 um, .int .i64 us, .int .i64 z, .int .i64 p, .int .i64 lo, .int .i64 hi] (by kernel_rfl) (Eq.trans (by kernel_rfl : _ = vo) HVO.out.symm) (by kernel_rfl) rfl (by simp [Value.oneCell']) ?_; (obtain ⟨w1, hw1⟩ : ∃ w1, w0.alloc (.cells #[.int .i64 k, .int .i64 a, .int .i64 b, .int .i64 m, .int .i64 kh, .int .i64 kw, .int .i64 sh, .int .i64 sw, .int .i64 tp, .int .i64 lf, .int .i64 bt, .int .i64 rt, .slice wa lw wc, .slice ba lb bc, .int .i64 sm, .int .i64 ss, .int .i64 um, .int .i64 us, .int .i64 z, .int .i64 p, .int .i64 lo, .int .i64 hi] 49) = w1 := ⟨_, rfl⟩); rw [hw1] at S1 ⊢; clear hw1))
  obtain ⟨c1, f1, z1, -⟩ := S1.out.rules
  go_upto_region 3 with fail
  have s2 := S1.out.seti (i := 1) (v := .int .i64 0) (by simp; have := HZ0.out; omega) #[.int .i64 k, .int .i64 0, .int .i64 b, .int .i64 m, .int .i64 kh, .int .i64 kw, .int .i64 sh, .int .i64 sw, .int .i64 tp, .int .i64 lf, .int .i64 bt, .int .i64 rt, .slice wa lw wc, .slice ba lb bc, .int .i64 sm, .int .i64 ss, .int .i64 um, .int .i64 us, .int .i64 z, .int .i64 p, .int .i64 lo, .int .i64 hi] (by kernel_rfl)
  obtain ⟨w2, hw2⟩ : ∃ w2, w1.setCell ⟨w0.heap.size, 1, none⟩ (.int .i64 0) = w2 := ⟨_, rfl⟩
  rw [hw2] at s2 ⊢
  have S2 : Hid (St W w2 _) := s2
  have hG1 := s2.h1
  have hG2 := s2.h2
  have hG3 := (s2.below.block r hrz).trans HR.out
  clear hw2 S1 c1 f1 s2 HL
  refine regionC (fun w' => w'.heap[r]? = some (.cells #[.int .i64 k, .int .i64 a, .int .i64 b, .int .i64 m, .int .i64 kh, .int .i64 kw, .int .i64 sh, .int .i64 sw, .int .i64 tp, .int .i64 lf, .int .i64 bt, .int .i64 rt, .slice wa lw wc, .slice ba lb bc, .int .i64 sm, .int .i64 ss, .int .i64 um, .int .i64 us, .int .i64 z, .int .i64 p, .int .i64 lo, .int .i64 hi, .int .i64 h, .int .i64 w, .int .i64 c, .int .i64 H, .int .i64 V, .int .i64 C] 58 (0, 0)) ∧ w'.heap[w0.heap.size]? = some (.cells #[.int .i64 k, .int .i64 0, .int .i64 b, .int .i64 m, .int .i64 kh, .int .i64 kw, .int .i64 sh, .int .i64 sw, .int .i64 tp, .int .i64 lf, .int .i64 bt, .int .i64 rt, .slice wa lw wc, .slice ba lb bc, .int .i64 sm, .int .i64 ss, .int .i64 um, .int .i64 us, .int .i64 z, .int .i64 p, .int .i64 lo, .int .i64 hi] 49 (0, 0))) (by kernel_rfl) ?_
  obtain ⟨wd, hwd⟩ : ∃ wd, w2.drew = wd := ⟨_, rfl⟩
  have HD : Hid (wd.heap[r]? = some (.cells #[.int .i64 k, .int .i64 a, .int .i64 b, .int .i64 m, .int .i64 kh, .int .i64 kw, .int .i64 sh, .int .i64 sw, .int .i64 tp, .int .i64 lf, .int .i64 bt, .int .i64 rt, .slice wa lw wc, .slice ba lb bc, .int .i64 sm, .int .i64 ss, .int .i64 um, .int .i64 us, .int .i64 z, .int .i64 p, .int .i64 lo, .int .i64 hi, .int .i64 h, .int .i64 w, .int .i64 c, .int .i64 H, .int .i64 V, .int .i64 C] 58 (0, 0)) ∧ wd.heap[w0.heap.size]? = some (.cells #[.int .i64 k, .int .i64 0, .int .i64 b, .int .i64 m, .int .i64 kh, .int .i64 kw, .int .i64 sh, .int .i64 sw, .int .i64 tp, .int .i64 lf, .int .i64 bt, .int .i64 rt, .slice wa lw wc, .slice ba lb bc, .int .i64 sm, .int .i64 ss, .int .i64 um, .int .i64 us, .int .i64 z, .int .i64 p, .int .i64 lo, .int .i64 hi] 49 (0, 0))) := by unfold Hid; rw [← hwd]; exact ⟨hG3, hG1⟩
  have s3 := S2.out.drew
  rw [hwd] at s3 ⊢
  have S3 : Hid (St W wd _) := s3
  clear hwd S2 hG1 hG2 hG3 s3
  refine takeC 0 (v := .pointer (some ⟨r, 0, none⟩)) rfl rfl (by kernel_rfl) (by kernel_rfl) (by kernel_rfl) (fun _ _ _ h => h) (fun _ => rfl) rfl (fun w' hw' => by go_simp) ?_
  refine takeC 1 (v := .pointer (some ⟨r, 0, none⟩)) rfl rfl (by kernel_rfl) (by kernel_rfl) (by kernel_rfl) (fun _ _ _ h => h) (fun _ => rfl) rfl (fun w' hw' => by go_simp) ?_
  refine takeC 2 (v := .pointer (some ⟨r, 22, none⟩)) rfl rfl (by kernel_rfl) (by kernel_rfl) (by kernel_rfl) (fun _ _ _ h => h) (fun _ => rfl) rfl (fun w' hw' => by go_simp) ?_
  refine takeC 3 (v := .agg #[.int .i64 h, .int .i64 w, .int .i64 c]) rfl rfl (by kernel_rfl) (by kernel_rfl) (by kernel_rfl) (fun _ _ _ h => h) (fun _ => rfl) rfl (fun w' hw' => run_la 23 (.tmp 11) rfl ⟨r, 22, none⟩ (by kernel_rfl) [.int .i64 h, .int .i64 w, .int .i64 c] _ (three_at hw'.1 rfl rfl rfl) Tryz.underlying23 rfl (by kernel_rfl)) ?_
  refine takeC 4 (v := .agg #[.int .i64 k, .int .i64 0, .int .i64 b, .int .i64 m, .int .i64 kh, .int .i64 kw, .int .i64 sh, .int .i64 sw, .int .i64 tp, .int .i64 lf, .int .i64 bt, .int .i64 rt, .slice wa lw wc, .slice ba lb bc, .int .i64 sm, .int .i64 ss, .int .i64 um, .int .i64 us, .int .i64 z, .int .i64 p, .int .i64 lo, .int .i64 hi]) rfl rfl (by kernel_rfl) (by kernel_rfl) (by kernel_rfl) (fun _ _ _ h => h) (fun _ => rfl) rfl (fun w' hw' => run_la 49 (.tmp 3) rfl ⟨w0.heap.size, 0, none⟩ (by kernel_rfl) [.int .i64 k, .int .i64 0, .int .i64 b, .int .i64 m, .int .i64 kh, .int .i64 kw, .int .i64 sh, .int .i64 sw, .int .i64 tp, .int .i64 lf, .int .i64 bt, .int .i64 rt, .slice wa lw wc, .slice ba lb bc, .int .i64 sm, .int .i64 ss, .int .i64 um, .int .i64 us, .int .i64 z, .int .i64 p, .int .i64 lo, .int .i64 hi] _ (lcells hw'.2 (fget [.int .i64 k, .int .i64 0, .int .i64 b, .int .i64 m, .int .i64 kh, .int .i64 kw, .int .i64 sh, .int .i64 sw, .int .i64 tp, .int .i64 lf, .int .i64 bt, .int .i64 rt, .slice wa lw wc, .slice ba lb bc, .int .i64 sm, .int .i64 ss, .int .i64 um, .int .i64 us, .int .i64 z, .int .i64 p, .int .i64 lo, .int .i64 hi] [])) Tryz.underlying49 rfl (by kernel_rfl)) ?_
  refine stepR 5 HD.out (by kernel_rfl) rfl rfl (.slice (some ⟨wd.heap.size, 0, none⟩) 1 1) (wd.alloc (.cells #[.int .i64 k, .int .i64 0, .int .i64 b, .int .i64 m, .int .i64 kh, .int .i64 kw, .int .i64 sh, .int .i64 sw, .int .i64 tp, .int .i64 lf, .int .i64 bt, .int .i64 rt, .slice wa lw wc, .slice ba lb bc, .int .i64 sm, .int .i64 ss, .int .i64 um, .int .i64 us, .int .i64 z, .int .i64 p, .int .i64 lo, .int .i64 hi] 49)) (by kernel_rfl) ?_
  have HA : Hid ((wd.alloc (.cells #[.int .i64 k, .int .i64 0, .int .i64 b, .int .i64 m, .int .i64 kh, .int .i64 kw, .int .i64 sh, .int .i64 sw, .int .i64 tp, .int .i64 lf, .int .i64 bt, .int .i64 rt, .slice wa lw wc, .slice ba lb bc, .int .i64 sm, .int .i64 ss, .int .i64 um, .int .i64 us, .int .i64 z, .int .i64 p, .int .i64 lo, .int .i64 hi] 49)).heap[r]? = some (.cells #[.int .i64 k, .int .i64 a, .int .i64 b, .int .i64 m, .int .i64 kh, .int .i64 kw, .int .i64 sh, .int .i64 sw, .int .i64 tp, .int .i64 lf, .int .i64 bt, .int .i64 rt, .slice wa lw wc, .slice ba lb bc, .int .i64 sm, .int .i64 ss, .int .i64 um, .int .i64 us, .int .i64 z, .int .i64 p, .int .i64 lo, .int .i64 hi, .int .i64 h, .int .i64 w, .int .i64 c, .int .i64 H, .int .i64 V, .int .i64 C] 58 (0, 0)) ∧ (wd.alloc (.cells #[.int .i64 k, .int .i64 0, .int .i64 b, .int .i64 m, .int .i64 kh, .int .i64 kw, .int .i64 sh, .int .i64 sw, .int .i64 tp, .int .i64 lf, .int .i64 bt, .int .i64 rt, .slice wa lw wc, .slice ba lb bc, .int .i64 sm, .int .i64 ss, .int .i64 um, .int .i64 us, .int .i64 z, .int .i64 p, .int .i64 lo, .int .i64 hi] 49)).heap[w0.heap.size]? = some (.cells #[.int .i64 k, .int .i64 0, .int .i64 b, .int .i64 m, .int .i64 kh, .int .i64 kw, .int .i64 sh, .int .i64 sw, .int .i64 tp, .int .i64 lf, .int .i64 bt, .int .i64 rt, .slice wa lw wc, .slice ba lb bc, .int .i64 sm, .int .i64 ss, .int .i64 um, .int .i64 us, .int .i64 z, .int .i64 p, .int .i64 lo, .int .i64 hi] 49 (0, 0))) := ⟨(heap_alloc_old wd _ (lt_of_heap HD.out.1)).trans HD.out.1, (heap_alloc_old wd _ (lt_of_heap HD.out.2)).trans HD.out.2⟩
  have s4 := S3.out.new (c := #[.int .i64 k, .int .i64 0, .int .i64 b, .int .i64 m, .int .i64 kh, .int .i64 kw, .int .i64 sh, .int .i64 sw, .int .i64 tp, .int .i64 lf, .int .i64 bt, .int .i64 rt, .slice wa lw wc, .slice ba lb bc, .int .i64 sm, .int .i64 ss, .int .i64 um, .int .i64 us, .int .i64 z, .int .i64 p, .int .i64 lo, .int .i64 hi]) (t := 49)
  have hwz : Hid (W.heap.size ≤ wd.heap.size) := S3.out.size
  obtain ⟨w4, hw4⟩ : ∃ w4, wd.alloc (.cells #[.int .i64 k, .int .i64 0, .int .i64 b, .int .i64 m, .int .i64 kh, .int .i64 kw, .int .i64 sh, .int .i64 sw, .int .i64 tp, .int .i64 lf, .int .i64 bt, .int .i64 rt, .slice wa lw wc, .slice ba lb bc, .int .i64 sm, .int .i64 ss, .int .i64 um, .int .i64 us, .int .i64 z, .int .i64 p, .int .i64 lo, .int .i64 hi] 49) = w4 := ⟨_, rfl⟩
  rw [hw4] at HA s4 ⊢
  have S4 : Hid (St W w4 _) := s4
  clear hw4 s4 S3 HD
  obtain ⟨g, hg⟩ : ∃ g, wd.heap.size = g := ⟨_, rfl⟩
  rw [hg] at S4 hwz ⊢
  clear hg
  refine takeC 6 (v := .agg #[.int .i64 h, .int .i64 w, .int .i64 c, .int .i64 0, .int .i64 0, .slice (some ⟨g, 0, none⟩) 1 1, .int .i64 0]) rfl rfl (by kernel_rfl) (by kernel_rfl) (by kernel_rfl) (fun _ _ _ h => h) (fun _ => rfl) rfl (fun w' hw' => by kernel_rfl) ?_
  have HS3 : Hid (w4.heap[W.heap.size]? = some (.cells #[.int .i64 0, .int .i64 0, .int .i64 0, .int .i64 0, .int .i64 0, .slice none 0 0, .int .i64 0] 26 (0, 0))) := S4.out.h3
  refine stepS 7 HA.out (by kernel_rfl) rfl rfl 26 (.tmp 2) (.tmp 15) rfl W.heap.size #[.int .i64 h, .int .i64 w, .int .i64 c, .int .i64 0, .int .i64 0, .slice (some ⟨g, 0, none⟩) 1 1, .int .i64 0] (by kernel_rfl) (by kernel_rfl) 26 #[.int .i64 0, .int .i64 0, .int .i64 0, .int .i64 0, .int .i64 0, .slice none 0 0, .int .i64 0] HS3.out (by kernel_rfl) rfl (by simp [Value.oneCell']) ?_
  have hZ' := setRow_heap w4 W.heap.size #[.int .i64 0, .int .i64 0, .int .i64 0, .int .i64 0, .int .i64 0, .slice none 0 0, .int .i64 0] #[.int .i64 h, .int .i64 w, .int .i64 c, .int .i64 0, .int .i64 0, .slice (some ⟨g, 0, none⟩) 1 1, .int .i64 0] 26 (0, 0) HS3.out
  have hn1 : g ≠ W.heap.size := fun e => by have h1 := S4.out.h1; rw [e, HS3.out] at h1; simp at h1
  have hn2 : w0.heap.size ≠ W.heap.size := by have := HZ0.out; omega
  have hn3 : r ≠ W.heap.size := by omega
  have hO' : Hid ((w4.setRow W.heap.size #[.int .i64 h, .int .i64 w, .int .i64 c, .int .i64 0, .int .i64 0, .slice (some ⟨g, 0, none⟩) 1 1, .int .i64 0]).heap[g]? = some (.cells #[.int .i64 k, .int .i64 0, .int .i64 b, .int .i64 m, .int .i64 kh, .int .i64 kw, .int .i64 sh, .int .i64 sw, .int .i64 tp, .int .i64 lf, .int .i64 bt, .int .i64 rt, .slice wa lw wc, .slice ba lb bc, .int .i64 sm, .int .i64 ss, .int .i64 um, .int .i64 us, .int .i64 z, .int .i64 p, .int .i64 lo, .int .i64 hi] 49 (0, 0))) := (setRow_other _ _ _ _ hn1).trans S4.out.h1
  have hB' : Hid (Below W.heap.size W (w4.setRow W.heap.size #[.int .i64 h, .int .i64 w, .int .i64 c, .int .i64 0, .int .i64 0, .slice (some ⟨g, 0, none⟩) 1 1, .int .i64 0])) := below_setRow S4.out.below (Nat.le_refl _) #[.int .i64 h, .int .i64 w, .int .i64 c, .int .i64 0, .int .i64 0, .slice (some ⟨g, 0, none⟩) 1 1, .int .i64 0]
  have hC' : (w4.setRow W.heap.size #[.int .i64 h, .int .i64 w, .int .i64 c, .int .i64 0, .int .i64 0, .slice (some ⟨g, 0, none⟩) 1 1, .int .i64 0]).heap[r]? = some (.cells #[.int .i64 k, .int .i64 a, .int .i64 b, .int .i64 m, .int .i64 kh, .int .i64 kw, .int .i64 sh, .int .i64 sw, .int .i64 tp, .int .i64 lf, .int .i64 bt, .int .i64 rt, .slice wa lw wc, .slice ba lb bc, .int .i64 sm, .int .i64 ss, .int .i64 um, .int .i64 us, .int .i64 z, .int .i64 p, .int .i64 lo, .int .i64 hi, .int .i64 h, .int .i64 w, .int .i64 c, .int .i64 H, .int .i64 V, .int .i64 C] 58 (0, 0)) ∧ (w4.setRow W.heap.size #[.int .i64 h, .int .i64 w, .int .i64 c, .int .i64 0, .int .i64 0, .slice (some ⟨g, 0, none⟩) 1 1, .int .i64 0]).heap[w0.heap.size]? = some (.cells #[.int .i64 k, .int .i64 0, .int .i64 b, .int .i64 m, .int .i64 kh, .int .i64 kw, .int .i64 sh, .int .i64 sw, .int .i64 tp, .int .i64 lf, .int .i64 bt, .int .i64 rt, .slice wa lw wc, .slice ba lb bc, .int .i64 sm, .int .i64 ss, .int .i64 um, .int .i64 us, .int .i64 z, .int .i64 p, .int .i64 lo, .int .i64 hi] 49 (0, 0)) := ⟨(setRow_other _ _ _ _ hn3).trans HA.out.1, (setRow_other _ _ _ _ hn2).trans HA.out.2⟩
  obtain ⟨w5, hw5⟩ : ∃ w5, w4.setRow W.heap.size #[.int .i64 h, .int .i64 w, .int .i64 c, .int .i64 0, .int .i64 0, .slice (some ⟨g, 0, none⟩) 1 1, .int .i64 0] = w5 := ⟨_, rfl⟩
  rw [hw5] at hZ' hO' hB' hC' ⊢
  clear hw5 S4 HS3 HA
  refine doneC hC' (by kernel_rfl) ?_ _
  obtain ⟨c1, f1, z5⟩ := cells_at hZ'
  clear hC' hZ'
  go_wp2
  exact bodyPost_ret (v := .agg #[.int .i64 h, .int .i64 w, .int .i64 c, .int .i64 0, .int .i64 0, .slice (some ⟨g, 0, none⟩) 1 1, .int .i64 0]) (by simp [results, Tryz.results60, go_sem, *]) rfl ⟨g, rfl, hO'.out, hwz.out, hB'.out⟩
end Go.Proofs.YtmcdpbnpnifdfaaGreat

/- What greatestUnder and greatest of package plain return. -/
namespace Go.Proofs.YtmcdpbnpnifdfaaGreat
open Go.ChangeShapes Go.WideShapes Go.ChangeAt Go.RowKit
set_option linter.unusedVariables false
theorem grA_at {w c kw : Int} {xs : List Int} {t u d : Int} {i j : Nat} (hj : (j : Int) < kw) {q N : Nat} (hq : (q : Int) = i * kw + j) (hN : ((t + i) * w + (u + j)) * c + d = (N : Int)) : grA w c kw xs t u d q = xs.getD N 0 := by
  unfold grA
  obtain ⟨e1, e2⟩ := divmod_at (q := i) hj
  rw [hq, e1, e2, hN, Int.toNat_natCast]
theorem w64 {x : Int} (h : -9223372036854775808 ≤ x ∧ x ≤ 9223372036854775807) : IntKind.i64.wrap x = x := by rw [IntKind.wrap_i64]; omega
set_option maxHeartbeats 4000000 in
theorem gunder_any (k a b m kh kw sh sw tp lf bt rt : Int) (wa : Option Addr) (lw wc : Nat) (ba : Option Addr) (lb bc : Nat) (sm ss um us z p lo hi h w c H V C : Int) (r : Nat) (W : World) (hr : W.heap[r]? = some (.cells #[.int .i64 k, .int .i64 a, .int .i64 b, .int .i64 m, .int .i64 kh, .int .i64 kw, .int .i64 sh, .int .i64 sw, .int .i64 tp, .int .i64 lf, .int .i64 bt, .int .i64 rt, .slice wa lw wc, .slice ba lb bc, .int .i64 sm, .int .i64 ss, .int .i64 um, .int .i64 us, .int .i64 z, .int .i64 p, .int .i64 lo, .int .i64 hi, .int .i64 h, .int .i64 w, .int .i64 c, .int .i64 H, .int .i64 V, .int .i64 C] 58 (0, 0))) (ad : Option Addr) (n cap : Nat) (xs : List Int) (hX : IRow .i8 W ad n cap xs) (hn : (n : Int) = h * w * c) (hA : vS h w c = true) (hkh : 1 ≤ kh ∧ kh ≤ 32) (hkw : 1 ≤ kw ∧ kw ≤ 32) (t u d : Int) (ht : 0 ≤ t ∧ t + kh ≤ h) (hu : 0 ≤ u ∧ u + kw ≤ w) (hd : 0 ≤ d ∧ d < c) :
    Calls Tryz.prog 81 #[.pointer (some ⟨r, 0, none⟩), .slice ad n cap, .int .i64 t, .int .i64 u, .int .i64 d] W fun e w' => e = .returned (.int .i64 (grM w c kw xs t u d (kh * kw).toNat)) ∧ ∃ q, w' = W.drewN q := by
  obtain ⟨c1, f1, z1⟩ := cells_at hr
  obtain ⟨hh, hw, hc, -⟩ := vS_yes hA
  have p3 := vS_bd hA
  obtain ⟨KH, rfl⟩ : ∃ KH : Nat, kh = (KH : Int) := ⟨kh.toNat, by omega⟩
  obtain ⟨KW, rfl⟩ : ∃ KW : Nat, kw = (KW : Int) := ⟨kw.toNat, by omega⟩
  have HX : Hid (IRow .i8 W ad n cap xs) := hX
  have HK : Hid (((KH : Int) * (KW : Int)).toNat = KH * KW) := by unfold Hid; rw [← Int.natCast_mul, Int.toNat_natCast]
  have HN : Hid ((n : Int) = h * w * c) := hn
  have hcap := hX.2.1
  have hcm := hX.2.2.1
  unfold maxLen at hcm
  clear hr hA hX hn
  go_enter Tryz.func81, Tryz.ntmps81
  go_wp2
  go_loopw [11, 12] (fun g y wr => ∃ i q : Nat, i ≤ KH ∧ y = .int .i64 (t + i) ∧ g = .int .i64 (grM w c KW xs t u d (i * KW)) ∧ wr = W.drewN q) (fun _ y _ => (t + KH - intOf y).toNat)
  case atStart => exact ⟨0, 0, Nat.zero_le _, by simp, by simp [grM], rfl⟩
  case round =>
    obtain ⟨i, q, hi, rfl, rfl, rfl⟩ := hrel
    by_cases hlt : i < KH
    · obtain ⟨Y, hY⟩ : ∃ Y, t + (i : Int) = Y := ⟨_, rfl⟩
      rw [hY]
      have hY1 : 0 ≤ Y ∧ Y < h ∧ Y < t + KH := by omega
      have HY : Hid (t + (i : Int) = Y) := hY
      clear hY
      go_wp2
      go_loopw [11, 13] (fun g x wr => ∃ j q : Nat, j ≤ KW ∧ x = .int .i64 (u + j) ∧ g = .int .i64 (grM w c KW xs t u d (i * KW + j)) ∧ wr = W.drewN q) (fun _ x _ => (u + KW - intOf x).toNat)
      case atStart => exact ⟨0, q, Nat.zero_le _, by simp, rfl, rfl⟩
      case round =>
        obtain ⟨j, q', hj, rfl, rfl, rfl⟩ := hrel
        by_cases hlt2 : j < KW
        · obtain ⟨X, hX⟩ : ∃ X, u + (j : Int) = X := ⟨_, rfl⟩
          have hX1 : 0 ≤ X ∧ X < w ∧ X < u + KW := by omega
          obtain ⟨r1, r2⟩ := rowbd hY1.2.1 hY1.1 hX1.1 hX1.2.1
          obtain ⟨P1, hP1⟩ : ∃ P1, Y * w = P1 := ⟨_, rfl⟩
          rw [hP1] at r1 r2
          obtain ⟨r3, r4⟩ := rowbd (w := c) r2 (by omega) hd.1 hd.2
          obtain ⟨P2, hP2⟩ : ∃ P2, (P1 + X) * c = P2 := ⟨_, rfl⟩
          rw [hP2] at r3 r4
          obtain ⟨N, hN⟩ : ∃ N : Nat, P2 + d = (N : Int) := ⟨(P2 + d).toNat, by omega⟩
          have hNn : N < n := by have := HN.out; omega
          obtain ⟨x, v, rfl, hv, hw8, hz, -⟩ := HX.out.at hNn
          obtain ⟨v1, v2⟩ := wf_i8 hw8
          have hE : grA w c KW xs t u d (i * KW + j) = v := by
            rw [grA_at (i := i) (j := j) (by omega) (by rw [Int.natCast_add, Int.natCast_mul]) (by rw [HY.out, hX, hP1, hP2, hN]), List.getD_eq_getElem?_getD, hz]; rfl
          have HS : Hid (grM w c KW xs t u d (i * KW + (j + 1)) = mxI (grM w c KW xs t u d (i * KW + j)) v) := by
            unfold Hid
            rw [← Nat.add_assoc, grM, hE]
          have hG := grM_i8 (w := w) (c := c) (kw := KW) HX.out.i8 t u d (i * KW + j)
          obtain ⟨G, hGe⟩ : ∃ G, grM w c KW xs t u d (i * KW + j) = G := ⟨_, rfl⟩
          rw [hGe] at HS hG ⊢
          obtain ⟨g1, g2⟩ := hG
          rw [hX]
          have HXx : Hid (u + (j : Int) = X) := hX
          have hcc : ∀ i, (W.drewN q').cell? ⟨r, i, none⟩ = _ := c1
          have hP1' : P1 ≤ 1048576 := by omega
          have hw1 : IntKind.i64.wrap P1 = P1 := w64 (by omega)
          have hw2 : IntKind.i64.wrap (P1 + X) = P1 + X := w64 (by omega)
          have hw3 : IntKind.i64.wrap P2 = P2 := w64 (by omega)
          have hw4 : IntKind.i64.wrap (N : Int) = N := w64 (by omega)
          clear hE hGe hX hz hw8
          by_cases hlg : G < v
          · have HM : Hid (mxI G v = v) := if_pos hlg
            have hng : ¬ v < G := by omega
            go_wp2
            go_quiet (fail)
            go_wp2
            go_roundw
            case rel => exact ⟨j + 1, _, by omega, by rw [← HXx.out]; go_num, by rw [HS.out, HM.out], rfl⟩
            case measure => simp [intOf]; omega
          · have HM : Hid (mxI G v = G) := if_neg hlg
            go_wp2
            go_quiet (fail)
            go_wp2
            go_roundw
            case rel => exact ⟨j + 1, _, by omega, by rw [← HXx.out]; go_num, by rw [HS.out, HM.out], rfl⟩
            case measure => simp [intOf]; omega
        · obtain rfl : j = KW := by omega
          have hcc : ∀ i, (W.drewN q').cell? ⟨r, i, none⟩ = _ := c1
          go_wp2
          go_roundw
          case rel => exact ⟨i + 1, q', by omega, by rw [← HY.out]; go_num, by rw [Nat.add_mul, Nat.one_mul], rfl⟩
          case measure => simp [intOf]; omega
    · obtain rfl : i = KH := by omega
      have hcc : ∀ i, (W.drewN q).cell? ⟨r, i, none⟩ = _ := c1
      have HE : Hid (grM w c KW xs t u d (i * KW) = grM w c KW xs t u d ((i : Int) * (KW : Int)).toNat) := by unfold Hid; rw [HK.out]
      go_wp2
      go_ret
      exact ⟨ret1 HE.out, q, rfl⟩
end Go.Proofs.YtmcdpbnpnifdfaaGreat
