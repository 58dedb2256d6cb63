/- The document's Value, Sum and Sums of layers 10 and 11. The document's Make of layer 11. The document's Tensors of layer 11. -/
import Derived.Test.YtmcdpbnpnifdfaaGreatGm25
import Derived.Test.YtmcdpbnpnifdfaaGreatGm26
import Derived.Test.YtmcdpbnpnifdfaaGreatGm30
import Derived.Deep.RegionLawGrows
/- The document's Value, Sum and Sums of layers 10 and 11. -/
namespace Go.Proofs.YtmcdpbnpnifdfaaGreat
open Go.ChangeShapes Go.WideShapes Go.ChangeAt Go.RowKit
set_option linter.unusedVariables false
set_option maxRecDepth 100000 in
set_option maxHeartbeats 2000000 in
theorem rvalue_any (k a b m kh kw sh sw tp lf bt rt : Int) (wa : Option Addr) (lw wc : Nat) (ba : Option Addr) (lb bc : Nat) (sm ss um us z p lo hi h w c H V C : Int) (A1 A2 : Int) (W : World) (ad : Option Addr) (n cap : Nat) (xs : List Int) (hX : IRow .i8 W ad n cap xs) (hp : I8 p) (h1 : -32768 ≤ A1 ∧ A1 ≤ 32767) (h2 : A2 = -1 ∨ (0 ≤ A2 ∧ A2 < (n : Int))) :
    Calls Tryz.prog 68 #[.agg #[.int .i64 k, .int .i64 a, .int .i64 b, .int .i64 m, .int .i64 kh, .int .i64 kw, .int .i64 sh, .int .i64 sw, .int .i64 tp, .int .i64 lf, .int .i64 bt, .int .i64 rt, .slice wa lw wc, .slice ba lb bc, .int .i64 sm, .int .i64 ss, .int .i64 um, .int .i64 us, .int .i64 z, .int .i64 p, .int .i64 lo, .int .i64 hi, .int .i64 h, .int .i64 w, .int .i64 c, .int .i64 H, .int .i64 V, .int .i64 C], .agg #[.int .i64 A1, .int .i64 A2], .slice ad n cap] W fun e w' => e = .returned (.int .i64 (smT p xs (A1, A2))) ∧ Below W.heap.size W w' := by
  have s0 := ((St.start W).new (c := #[.int .i64 k, .int .i64 a, .int .i64 b, .int .i64 m, .int .i64 kh, .int .i64 kw, .int .i64 sh, .int .i64 sw, .int .i64 tp, .int .i64 lf, .int .i64 bt, .int .i64 rt, .slice wa lw wc, .slice ba lb bc, .int .i64 sm, .int .i64 ss, .int .i64 um, .int .i64 us, .int .i64 z, .int .i64 p, .int .i64 lo, .int .i64 hi, .int .i64 h, .int .i64 w, .int .i64 c, .int .i64 H, .int .i64 V, .int .i64 C]) (t := 71)).new (c := #[.int .i64 A1, .int .i64 A2]) (t := 116)
  simp only [World.size_alloc] at s0
  obtain ⟨c1, f1, z1, c2, f2, z2, -⟩ := s0.rules
  have S0 : Hid (St W _ _) := s0
  have hb := smT_bd (t := (A1, A2)) hp hX.i8 h1
  by_cases neg : A2 < 0
  · have e : Hid (A1 * p = smT p xs (A1, A2)) := by unfold Hid smT; rw [if_pos neg]
    rw [← e.out] at hb ⊢
    obtain ⟨pp, hpp⟩ : ∃ pp, A1 * p = pp := ⟨_, rfl⟩
    rw [hpp] at hb ⊢
    clear hX h2 e s0
    go_enter Tryz.func68, Tryz.ntmps68
    go_wp2
    go_ret
    exact ⟨rfl, S0.out.below⟩
  · obtain ⟨j, rfl⟩ : ∃ j : Nat, A2 = (j : Int) := ⟨A2.toNat, by omega⟩
    have hj : j < n := by omega
    obtain ⟨x, u, rfl, hu, hw8, hz, -⟩ := (hX.below S0.out.below).at hj
    obtain ⟨u1, u2⟩ := wf_i8 hw8
    have e : Hid (A1 * u = smT p xs (A1, (j : Int))) := by unfold Hid smT; simp only; rw [if_neg (by omega), Int.toNat_natCast, List.getD_eq_getElem?_getD, hz]; rfl
    rw [← e.out] at hb ⊢
    obtain ⟨pp, hpp⟩ : ∃ pp, A1 * u = pp := ⟨_, rfl⟩
    rw [hpp] at hb ⊢
    have hwp : IntKind.i64.wrap pp = pp := w64 (by omega)
    clear hX h2 e s0 hz hw8
    go_enter Tryz.func68, Tryz.ntmps68
    go_wp2
    go_quiet (fail)
    go_wp2
    go_ret
    exact ⟨rfl, btr S0.out.below (dbel _ _)⟩
set_option maxRecDepth 100000 in
set_option maxHeartbeats 4000000 in
theorem rsum_any (k a b m kh kw sh sw tp lf bt rt : Int) (wa : Option Addr) (lw wc : Nat) (ba : Option Addr) (lb bc : Nat) (sm ss um us z p lo hi h w c H V C : Int) (W : World) (s : Sit k kh kw sh sw tp lf bt rt h w c H V C lw lb) (zs bs : List Int) (hZ : IRow .i16 W wa lw wc zs) (hB : IRow .i32 W ba lb bc bs) (ad : Option Addr) (n cap : Nat) (xs : List Int) (hX : IRow .i8 W ad n cap xs) (hn : (n : Int) = h * w * c) (hp : I8 p) (ch at' : Int) (hch : 1 ≤ ch ∧ ch ≤ C) (hat : 0 ≤ at' ∧ at' < H * V) :
    Calls Tryz.prog 46 #[.agg #[.int .i64 k, .int .i64 a, .int .i64 b, .int .i64 m, .int .i64 kh, .int .i64 kw, .int .i64 sh, .int .i64 sw, .int .i64 tp, .int .i64 lf, .int .i64 bt, .int .i64 rt, .slice wa lw wc, .slice ba lb bc, .int .i64 sm, .int .i64 ss, .int .i64 um, .int .i64 us, .int .i64 z, .int .i64 p, .int .i64 lo, .int .i64 hi, .int .i64 h, .int .i64 w, .int .i64 c, .int .i64 H, .int .i64 V, .int .i64 C], .int .i64 ch, .int .i64 at', .slice ad n cap] W fun e w' => e = .returned (.int .i64 (suA k kh kw sh sw tp lf bt rt h w c p zs bs xs ch at')) ∧ Below W.heap.size W w' := by
  have HBi : Hid (∀ (w' : World), Below W.heap.size W w' → _) := fun w' hb => rbias_any k a b m kh kw sh sw tp lf bt rt wa lw wc ba lb bc sm ss um us z p lo hi h w c H V C w' bs (hB.below hb) s ch hch
  have HTe : Hid (∀ (w' : World), Below W.heap.size W w' → _) := fun w' hb => rterms_any k a b m kh kw sh sw tp lf bt rt wa lw wc ba lb bc sm ss um us z p lo hi h w c H V C w' zs (hZ.below hb) s ch at' hch hat
  obtain ⟨hl, ht⟩ := siL_facts s hZ.2.2.2.1 hch at'
  have hb0 := biA_bd (k := k) (ch := ch) hB.2.2.2.1
  have HVa : Hid (∀ (w' : World), Below W.heap.size W w' → ∀ A1 A2, (-32768 ≤ A1 ∧ A1 ≤ 32767) → (A2 = -1 ∨ (0 ≤ A2 ∧ A2 < (n : Int))) → _) := fun w' hb A1 A2 h1 h2 => rvalue_any k a b m kh kw sh sw tp lf bt rt wa lw wc ba lb bc sm ss um us z p lo hi h w c H V C A1 A2 w' ad n cap xs (hX.below hb) hp h1 h2
  unfold suA
  obtain ⟨TL, hTL⟩ : ∃ TL, siL k kh kw sh sw tp lf bt rt h w c ch at' zs = TL := ⟨_, rfl⟩
  obtain ⟨bi, hbi⟩ : ∃ bi, biA k ch bs = bi := ⟨_, rfl⟩
  rw [hTL] at HTe hl ht ⊢
  rw [hbi] at HBi hb0 ⊢
  rw [← hn] at ht
  have HT : Hid (∀ t ∈ TL, (-32768 ≤ t.1 ∧ t.1 ≤ 32767) ∧ (t.2 = -1 ∨ (0 ≤ t.2 ∧ t.2 < (n : Int)))) := ht
  have HX8 : Hid (∀ v ∈ xs, I8 v) := hX.i8
  have HP8 : Hid (I8 p) := hp
  have HLn : Hid (TL.length ≤ 512) := hl
  have s0 := (St.start W).new (c := #[.int .i64 k, .int .i64 a, .int .i64 b, .int .i64 m, .int .i64 kh, .int .i64 kw, .int .i64 sh, .int .i64 sw, .int .i64 tp, .int .i64 lf, .int .i64 bt, .int .i64 rt, .slice wa lw wc, .slice ba lb bc, .int .i64 sm, .int .i64 ss, .int .i64 um, .int .i64 us, .int .i64 z, .int .i64 p, .int .i64 lo, .int .i64 hi, .int .i64 h, .int .i64 w, .int .i64 c, .int .i64 H, .int .i64 V, .int .i64 C]) (t := 71)
  have S0 : Hid (St W _ _) := s0
  clear hZ hB hX s ht hl hTL hbi hp s0
  go_enter Tryz.func46, Tryz.ntmps46
  go_wp2_with (refine wpList_load_row rfl 71 (.tmp 4) rfl W.heap.size rfl 71 _ (0, 0) _ S0.out.h1 Tryz.underlying71 rfl (by kernel_rfl) ?_)
  refine Calls.mono (HBi.out _ S0.out.below) ?_
  rintro e w1 ⟨rfl, hb1⟩
  have S1 : Hid (St W w1 _) := S0.out.call hb1
  clear hb1 S0 HBi
  go_wp2_with (refine wpList_load_row rfl 71 (.tmp 4) rfl W.heap.size rfl 71 _ (0, 0) _ S1.out.h1 Tryz.underlying71 rfl (by kernel_rfl) ?_)
  refine Calls.mono (HTe.out _ S1.out.below) ?_
  rintro e w2 ⟨⟨v, rfl, hO⟩, hb2⟩
  have S2 : Hid (St W w2 _) := S1.out.call hb2
  obtain ⟨va, vc, hve, v1, v2, v3⟩ := hO.tv
  subst hve
  unfold maxLen at v2
  obtain ⟨N, hN⟩ : ∃ N, TL.length = N := ⟨_, rfl⟩
  rw [hN] at v1 v3 HLn ⊢
  have HNl : Hid (TL.length = N) := hN
  have HV : Hid (0 < N → _) := v3
  clear hb2 hO S1 HTe v3 hN
  go_wp2
  go_loopw [9, 20] (fun sm' i wr => ∃ y : Nat, y ≤ N ∧ i = .int .i64 y ∧ sm' = .int .i64 (bi + smV p xs (TL.take y)) ∧ Below w2.heap.size w2 wr) (fun _ i _ => N - (intOf i).toNat)
  case atStart => exact ⟨0, Nat.zero_le _, rfl, by simp [smV], Below.refl _ _⟩
  case round =>
    obtain ⟨y, hy, rfl, rfl, hb⟩ := hrel
    have SR : Hid (St W wr _) := S2.out.call hb
    by_cases hlt : y < N
    · obtain ⟨g, rfl, hc⟩ := HV.out (by omega)
      obtain ⟨q1, q2⟩ := TV.at hc (show y < TL.length by rw [HNl.out]; exact hlt)
      obtain ⟨A1, A2, hA⟩ : ∃ A1 A2, TL.getD y (0, 0) = (A1, A2) := ⟨_, _, rfl⟩
      rw [hA] at q1 q2
      simp only at q1 q2
      have hmem : (A1, A2) ∈ TL := by
        rw [← hA, List.getD_eq_getElem?_getD, List.getElem?_eq_getElem (by rw [HNl.out]; exact hlt)]
        exact List.getElem_mem _
      obtain ⟨hw1, hat2⟩ := HT.out _ hmem
      have hS := smV_take (p := p) (x := xs) (show y < TL.length by rw [HNl.out]; exact hlt) hA
      have b1 := smV_bd HP8.out HX8.out (TL.take y) (take_mem (fun t ht => (HT.out t ht).1) y)
      have b2 := smT_bd HP8.out HX8.out (t := (A1, A2)) hw1
      have hty : (TL.take y).length ≤ 512 := by rw [List.length_take]; have := HLn.out; omega
      have p1 := (hb.cell (World.block_lt_of_cell? w2 _ q1)).trans q1
      have p2' := (hb.cell (World.block_lt_of_cell? w2 _ q2)).trans q2
      have HC : Hid (∀ (w' : World), Below W.heap.size W w' → _) := fun w' hb => HVa.out w' hb A1 A2 hw1 hat2
      obtain ⟨sv, hsv⟩ : ∃ sv, smV p xs (TL.take y) = sv := ⟨_, rfl⟩
      obtain ⟨tv, htv⟩ : ∃ tv, smT p xs (A1, A2) = tv := ⟨_, rfl⟩
      rw [hsv] at b1 hS ⊢
      rw [htv] at b2 hS HC
      have b1' : -2147483648 ≤ sv ∧ sv ≤ 2147483648 := by omega
      have HS : Hid (smV p xs (TL.take (y + 1)) = sv + tv) := hS
      have hbox := heap_alloc_old wr (.cells #[.int .i64 A1, .int .i64 A2] 116) (lt_of_heap SR.out.h1)
      rw [SR.out.h1] at hbox
      have Hbox : Hid ((wr.alloc (.cells #[.int .i64 A1, .int .i64 A2] 116)).heap[W.heap.size]? = some (.cells #[.int .i64 k, .int .i64 a, .int .i64 b, .int .i64 m, .int .i64 kh, .int .i64 kw, .int .i64 sh, .int .i64 sw, .int .i64 tp, .int .i64 lf, .int .i64 bt, .int .i64 rt, .slice wa lw wc, .slice ba lb bc, .int .i64 sm, .int .i64 ss, .int .i64 um, .int .i64 us, .int .i64 z, .int .i64 p, .int .i64 lo, .int .i64 hi, .int .i64 h, .int .i64 w, .int .i64 c, .int .i64 H, .int .i64 V, .int .i64 C] 71 (0, 0))) := hbox
      clear hS b1 q1 q2 hsv hmem hc hA HV htv hbox hw1 hat2
      go_wp2_with (refine wpList_load_row rfl 71 (.tmp 4) rfl W.heap.size rfl 71 _ (0, 0) _ Hbox.out Tryz.underlying71 rfl (by kernel_rfl) ?_)
      refine Calls.mono (HC.out _ (btr SR.out.below (bal _ _))) ?_
      rintro e w5 ⟨rfl, hb5⟩
      have Hb5 : Hid (Below w2.heap.size w2 w5) := btr hb (btr (bal _ _) hb5)
      clear hb5 hb p1 p2' SR Hbox HC
      go_wp2
      go_roundw
      case rel => exact ⟨y + 1, by omega, by go_num, by rw [HS.out, Int.add_assoc], Hb5.out⟩
      case measure => simp [intOf]; omega
    · obtain rfl : y = N := by omega
      have e : Hid (bi + smV p xs (TL.take y) = bi + smV p xs TL) := by unfold Hid; rw [← HNl.out, List.take_length]
      clear HV
      go_wp2
      go_ret
      exact ⟨ret1 e.out, SR.out.below⟩
set_option maxRecDepth 100000 in
set_option maxHeartbeats 8000000 in
theorem rsums_any (k a b m kh kw sh sw tp lf bt rt : Int) (wa : Option Addr) (lw wc : Nat) (ba : Option Addr) (lb bc : Nat) (sm ss um us z p lo hi h w c H V C : Int) (W : World) (s : Sit k kh kw sh sw tp lf bt rt h w c H V C lw lb) (zs bs : List Int) (hZ : IRow .i16 W wa lw wc zs) (hB : IRow .i32 W ba lb bc bs) (ad : Option Addr) (n cap : Nat) (xs : List Int) (hX : IRow .i8 W ad n cap xs) (hn : (n : Int) = h * w * c) (hp : I8 p) :
    Calls Tryz.prog 27 #[.agg #[.int .i64 k, .int .i64 a, .int .i64 b, .int .i64 m, .int .i64 kh, .int .i64 kw, .int .i64 sh, .int .i64 sw, .int .i64 tp, .int .i64 lf, .int .i64 bt, .int .i64 rt, .slice wa lw wc, .slice ba lb bc, .int .i64 sm, .int .i64 ss, .int .i64 um, .int .i64 us, .int .i64 z, .int .i64 p, .int .i64 lo, .int .i64 hi, .int .i64 h, .int .i64 w, .int .i64 c, .int .i64 H, .int .i64 V, .int .i64 C], .slice ad n cap] W fun e w' => (∃ v, e = .returned v ∧ Own .i64 2 w' W.heap.size v (suL k kh kw sh sw tp lf bt rt h w c C p zs bs xs (H * V * C).toNat)) ∧ Below W.heap.size W w' := by
  have HPo : Hid (∀ W', Calls Tryz.prog 45 #[.agg #[.int .i64 k, .int .i64 a, .int .i64 b, .int .i64 m, .int .i64 kh, .int .i64 kw, .int .i64 sh, .int .i64 sw, .int .i64 tp, .int .i64 lf, .int .i64 bt, .int .i64 rt, .slice wa lw wc, .slice ba lb bc, .int .i64 sm, .int .i64 ss, .int .i64 um, .int .i64 us, .int .i64 z, .int .i64 p, .int .i64 lo, .int .i64 hi, .int .i64 h, .int .i64 w, .int .i64 c, .int .i64 H, .int .i64 V, .int .i64 C]] W' fun e w' => e = .returned (.int .i64 (H * V)) ∧ Below W'.heap.size W' w') := fun W' => rpos_any k a b m kh kw sh sw tp lf bt rt wa lw wc ba lb bc sm ss um us z p lo hi h w c H V C W' s.2.2.1
  have HSm : Hid (∀ (w' : World), Below W.heap.size W w' → ∀ (ch at' : Int), (1 ≤ ch ∧ ch ≤ C) → (0 ≤ at' ∧ at' < H * V) → Calls Tryz.prog 46 #[.agg #[.int .i64 k, .int .i64 a, .int .i64 b, .int .i64 m, .int .i64 kh, .int .i64 kw, .int .i64 sh, .int .i64 sw, .int .i64 tp, .int .i64 lf, .int .i64 bt, .int .i64 rt, .slice wa lw wc, .slice ba lb bc, .int .i64 sm, .int .i64 ss, .int .i64 um, .int .i64 us, .int .i64 z, .int .i64 p, .int .i64 lo, .int .i64 hi, .int .i64 h, .int .i64 w, .int .i64 c, .int .i64 H, .int .i64 V, .int .i64 C], .int .i64 ch, .int .i64 at', .slice ad n cap] w' fun e w'' => e = .returned (.int .i64 (suA k kh kw sh sw tp lf bt rt h w c p zs bs xs ch at')) ∧ Below w'.heap.size w' w'') :=
    fun w' hb ch at' hch hat => rsum_any k a b m kh kw sh sw tp lf bt rt wa lw wc ba lb bc sm ss um us z p lo hi h w c H V C w' s zs bs (hZ.below hb) (hB.below hb) ad n cap xs (hX.below hb) hn hp ch at' hch hat
  have HSb : Hid (∀ ch at' : Int, (1 ≤ ch ∧ ch ≤ C) → -4294967296 ≤ suA k kh kw sh sw tp lf bt rt h w c p zs bs xs ch at' ∧ suA k kh kw sh sw tp lf bt rt h w c p zs bs xs ch at' ≤ 4294967296) := fun ch at' hch => suA_bd s hZ.2.2.2.1 hB.2.2.2.1 hp hX.i8 hch at'
  obtain ⟨hH, hV, hC, -⟩ := vS_yes s.2.2.1
  have p3 := vS_bd s.2.2.1
  clear hZ hB hX hn s hp
  obtain ⟨CN, rfl⟩ : ∃ CN : Nat, C = (CN : Int) := ⟨C.toNat, by omega⟩
  obtain ⟨P, hP⟩ : ∃ P : Nat, H * V = (P : Int) := ⟨(H * V).toNat, by omega⟩
  rw [hP] at HPo HSm p3 ⊢
  obtain ⟨N, hN⟩ : ∃ N : Nat, (P : Int) * (CN : Int) = (N : Int) := ⟨P * CN, by rw [Int.natCast_mul]⟩
  have HNN : Hid (P * CN = N) := by
    have : ((P * CN : Nat) : Int) = (N : Int) := by rw [Int.natCast_mul]; exact hN
    unfold Hid; omega
  rw [hN] at p3 ⊢
  rw [Int.toNat_natCast]
  clear hN
  have s0 := (St.start W).new (c := #[.int .i64 k, .int .i64 a, .int .i64 b, .int .i64 m, .int .i64 kh, .int .i64 kw, .int .i64 sh, .int .i64 sw, .int .i64 tp, .int .i64 lf, .int .i64 bt, .int .i64 rt, .slice wa lw wc, .slice ba lb bc, .int .i64 sm, .int .i64 ss, .int .i64 um, .int .i64 us, .int .i64 z, .int .i64 p, .int .i64 lo, .int .i64 hi, .int .i64 h, .int .i64 w, .int .i64 c, .int .i64 H, .int .i64 V, .int .i64 (CN : Int)]) (t := 71)
  have S0 : Hid (St W _ [(W.heap.size, #[.int .i64 k, .int .i64 a, .int .i64 b, .int .i64 m, .int .i64 kh, .int .i64 kw, .int .i64 sh, .int .i64 sw, .int .i64 tp, .int .i64 lf, .int .i64 bt, .int .i64 rt, .slice wa lw wc, .slice ba lb bc, .int .i64 sm, .int .i64 ss, .int .i64 um, .int .i64 us, .int .i64 z, .int .i64 p, .int .i64 lo, .int .i64 hi, .int .i64 h, .int .i64 w, .int .i64 c, .int .i64 H, .int .i64 V, .int .i64 (CN : Int)], 71)]) := s0
  clear s0
  go_enter Tryz.func27, Tryz.ntmps27
  go_wp2_with fail
  have Ho0 : Hid (Own .i64 2 (W.alloc (.cells #[.int .i64 k, .int .i64 a, .int .i64 b, .int .i64 m, .int .i64 kh, .int .i64 kw, .int .i64 sh, .int .i64 sw, .int .i64 tp, .int .i64 lf, .int .i64 bt, .int .i64 rt, .slice wa lw wc, .slice ba lb bc, .int .i64 sm, .int .i64 ss, .int .i64 um, .int .i64 us, .int .i64 z, .int .i64 p, .int .i64 lo, .int .i64 hi, .int .i64 h, .int .i64 w, .int .i64 c, .int .i64 H, .int .i64 V, .int .i64 (CN : Int)] 71)) W.heap.size (.slice none 0 0) []) := own_none _ _ _ _
  go_loopw [5, 6] (fun v i wr => ∃ (y : Nat) (v1 : Value), v1 = v ∧ y ≤ P ∧ i = .int .i64 y ∧ Own .i64 2 wr W.heap.size v (suL k kh kw sh sw tp lf bt rt h w c CN p zs bs xs (y * CN)) ∧ St W wr [(W.heap.size, #[.int .i64 k, .int .i64 a, .int .i64 b, .int .i64 m, .int .i64 kh, .int .i64 kw, .int .i64 sh, .int .i64 sw, .int .i64 tp, .int .i64 lf, .int .i64 bt, .int .i64 rt, .slice wa lw wc, .slice ba lb bc, .int .i64 sm, .int .i64 ss, .int .i64 um, .int .i64 us, .int .i64 z, .int .i64 p, .int .i64 lo, .int .i64 hi, .int .i64 h, .int .i64 w, .int .i64 c, .int .i64 H, .int .i64 V, .int .i64 (CN : Int)], 71)]) (fun _ i _ => P - (intOf i).toNat)
  case atStart => exact ⟨0, _, rfl, Nat.zero_le _, rfl, by simpa [suL] using Ho0.out, S0.out⟩
  case round =>
    obtain ⟨y, v1, rfl, hy, rfl, hO, sr⟩ := hrel
    clear S0 Ho0
    have HO : Hid (Own .i64 2 wr W.heap.size v1 (suL k kh kw sh sw tp lf bt rt h w c CN p zs bs xs (y * CN))) := hO
    have SR : Hid (St W wr [(W.heap.size, #[.int .i64 k, .int .i64 a, .int .i64 b, .int .i64 m, .int .i64 kh, .int .i64 kw, .int .i64 sh, .int .i64 sw, .int .i64 tp, .int .i64 lf, .int .i64 bt, .int .i64 rt, .slice wa lw wc, .slice ba lb bc, .int .i64 sm, .int .i64 ss, .int .i64 um, .int .i64 us, .int .i64 z, .int .i64 p, .int .i64 lo, .int .i64 hi, .int .i64 h, .int .i64 w, .int .i64 c, .int .i64 H, .int .i64 V, .int .i64 (CN : Int)], 71)]) := sr
    clear hO sr
    go_wp2_with (refine wpList_load_row rfl 71 (.tmp 2) rfl W.heap.size rfl 71 _ (0, 0) _ SR.out.h1 Tryz.underlying71 rfl (by kernel_rfl) ?_)
    refine Calls.mono (HPo.out _) ?_
    rintro e w1 ⟨rfl, hb1⟩
    have S1 : Hid (St W w1 [(W.heap.size, #[.int .i64 k, .int .i64 a, .int .i64 b, .int .i64 m, .int .i64 kh, .int .i64 kw, .int .i64 sh, .int .i64 sw, .int .i64 tp, .int .i64 lf, .int .i64 bt, .int .i64 rt, .slice wa lw wc, .slice ba lb bc, .int .i64 sm, .int .i64 ss, .int .i64 um, .int .i64 us, .int .i64 z, .int .i64 p, .int .i64 lo, .int .i64 hi, .int .i64 h, .int .i64 w, .int .i64 c, .int .i64 H, .int .i64 V, .int .i64 (CN : Int)], 71)]) := SR.out.call hb1
    have O1 : Hid (Own .i64 2 w1 W.heap.size v1 (suL k kh kw sh sw tp lf bt rt h w c CN p zs bs xs (y * CN))) := HO.out.below hb1
    clear hb1 SR HO
    by_cases hlt : y < P
    · go_wp2
      go_loopw [5, 7] (fun v i wr => ∃ (d : Nat) (v2 : Value), v2 = v ∧ d ≤ CN ∧ i = .int .i64 ((d : Int) + 1) ∧ Own .i64 2 wr W.heap.size v (suL k kh kw sh sw tp lf bt rt h w c CN p zs bs xs (y * CN + d)) ∧ St W wr [(W.heap.size, #[.int .i64 k, .int .i64 a, .int .i64 b, .int .i64 m, .int .i64 kh, .int .i64 kw, .int .i64 sh, .int .i64 sw, .int .i64 tp, .int .i64 lf, .int .i64 bt, .int .i64 rt, .slice wa lw wc, .slice ba lb bc, .int .i64 sm, .int .i64 ss, .int .i64 um, .int .i64 us, .int .i64 z, .int .i64 p, .int .i64 lo, .int .i64 hi, .int .i64 h, .int .i64 w, .int .i64 c, .int .i64 H, .int .i64 V, .int .i64 (CN : Int)], 71)]) (fun _ i _ => CN + 1 - (intOf i).toNat)
      case atStart => exact ⟨0, _, rfl, Nat.zero_le _, rfl, O1.out, S1.out⟩
      case round =>
        obtain ⟨d, v2, rfl, hd, rfl, hO, sr⟩ := hrel
        clear O1 S1
        have HO : Hid (Own .i64 2 wr W.heap.size v2 (suL k kh kw sh sw tp lf bt rt h w c CN p zs bs xs (y * CN + d))) := hO
        have SR : Hid (St W wr [(W.heap.size, #[.int .i64 k, .int .i64 a, .int .i64 b, .int .i64 m, .int .i64 kh, .int .i64 kw, .int .i64 sh, .int .i64 sw, .int .i64 tp, .int .i64 lf, .int .i64 bt, .int .i64 rt, .slice wa lw wc, .slice ba lb bc, .int .i64 sm, .int .i64 ss, .int .i64 um, .int .i64 us, .int .i64 z, .int .i64 p, .int .i64 lo, .int .i64 hi, .int .i64 h, .int .i64 w, .int .i64 c, .int .i64 H, .int .i64 V, .int .i64 (CN : Int)], 71)]) := sr
        obtain ⟨c2, f2, z6, -⟩ := sr.rules
        clear hO sr
        by_cases hltd : d < CN
        · have hch : 1 ≤ (d : Int) + 1 ∧ (d : Int) + 1 ≤ (CN : Int) := by omega
          have HS := suL_succ k kh kw sh sw tp lf bt rt h w c (CN : Int) p zs bs xs (y * CN + d)
          obtain ⟨e1, e2⟩ := divmod_at (C := (CN : Int)) (q := y) (d := d) (by omega)
          rw [Int.natCast_add, Int.natCast_mul, e1, e2] at HS
          obtain ⟨b1, b2⟩ := HSb.out ((d : Int) + 1) (y : Int) hch
          have HC1 : Hid (∀ (w' : World), Below W.heap.size W w' → _) := fun w' hb => HSm.out w' hb ((d : Int) + 1) y hch ⟨by omega, by omega⟩
          obtain ⟨sv, hsv⟩ : ∃ sv, suA k kh kw sh sw tp lf bt rt h w c p zs bs xs ((d : Int) + 1) (y : Int) = sv := ⟨_, rfl⟩
          rw [hsv] at HC1 HS b1 b2
          have HSS : Hid (suL k kh kw sh sw tp lf bt rt h w c CN p zs bs xs (y * CN + d + 1) = suL k kh kw sh sw tp lf bt rt h w c CN p zs bs xs (y * CN + d) ++ [sv]) := HS
          have HLn : Hid (y * CN + d ≤ 16384) := by
            unfold Hid
            have q1 : (y + 1) * CN ≤ P * CN := Nat.mul_le_mul_right _ hlt
            rw [HNN.out, Nat.add_mul] at q1
            omega
          clear HS e1 e2 hsv
          obtain ⟨D, hD⟩ : ∃ D : Int, (d : Int) + 1 = D := ⟨_, rfl⟩
          rw [hD] at HC1 hch ⊢
          have HD : Hid ((d : Int) + 1 = D) := hD
          clear hD
          go_wp2_with (refine wpList_load_row rfl 71 (.tmp 2) rfl W.heap.size rfl 71 _ (0, 0) _ SR.out.h1 Tryz.underlying71 rfl (by kernel_rfl) ?_)
          refine Calls.mono (HC1.out _ SR.out.below) ?_
          rintro e w6 ⟨rfl, hb6⟩
          have S6 : Hid (St W w6 [(W.heap.size, #[.int .i64 k, .int .i64 a, .int .i64 b, .int .i64 m, .int .i64 kh, .int .i64 kw, .int .i64 sh, .int .i64 sw, .int .i64 tp, .int .i64 lf, .int .i64 bt, .int .i64 rt, .slice wa lw wc, .slice ba lb bc, .int .i64 sm, .int .i64 ss, .int .i64 um, .int .i64 us, .int .i64 z, .int .i64 p, .int .i64 lo, .int .i64 hi, .int .i64 h, .int .i64 w, .int .i64 c, .int .i64 H, .int .i64 V, .int .i64 (CN : Int)], 71)]) := SR.out.call hb6
          have O6 : Hid (Own .i64 2 w6 W.heap.size v2 (suL k kh kw sh sw tp lf bt rt h w c CN p zs bs xs (y * CN + d))) := HO.out.below hb6
          clear hb6 HC1 HO SR c2 f2
          go_wp2_with (at_builtin; refine wpList_app kt_i64 rfl (.tmp 21) (.tmp 27) rfl W.heap.size v2 (suL k kh kw sh sw tp lf bt rt h w c CN p zs bs xs (y * CN + d)) [sv] rfl (O6.out.alloc _) _ _ _ rfl (row_one .i64 2 w6 sv (mk_i64 (by omega))) (by rw [suL_len]; have := HLn.out; simp; omega) (by have := S6.out.size; simp; omega) ?_; intro v7 w7 own7 gr7 nn7; have S7 : Hid (St W w7 [(W.heap.size, #[.int .i64 k, .int .i64 a, .int .i64 b, .int .i64 m, .int .i64 kh, .int .i64 kw, .int .i64 sh, .int .i64 sw, .int .i64 tp, .int .i64 lf, .int .i64 bt, .int .i64 rt, .slice wa lw wc, .slice ba lb bc, .int .i64 sm, .int .i64 ss, .int .i64 um, .int .i64 us, .int .i64 z, .int .i64 p, .int .i64 lo, .int .i64 hi, .int .i64 h, .int .i64 w, .int .i64 c, .int .i64 H, .int .i64 V, .int .i64 (CN : Int)], 71)]) := (S6.out.skip (.cells #[.int .i64 sv] 2)).grow (O6.out.alloc _) gr7 (Nat.le_refl _) (by simp); have O7 : Hid (Own .i64 2 w7 W.heap.size v7 (suL k kh kw sh sw tp lf bt rt h w c CN p zs bs xs (y * CN + d + 1))) := (by rw [HSS.out]; exact own7); clear own7 gr7 nn7 S6 O6)
          go_roundw
          case rel => exact ⟨d + 1, _, rfl, by omega, by rw [← HD.out]; go_num, O7.out, S7.out⟩
          case measure => have := HD.out; simp [intOf]; omega
        · obtain rfl : d = CN := by omega
          have Ho2 : Hid (Own .i64 2 wr W.heap.size v2 (suL k kh kw sh sw tp lf bt rt h w c d p zs bs xs ((y + 1) * d))) := by
            have e : (y + 1) * d = y * d + d := by rw [Nat.add_mul, Nat.one_mul]
            unfold Hid
            rw [e]; exact HO.out
          clear HO
          go_wp2
          go_roundw
          case rel => exact ⟨y + 1, _, rfl, by omega, by go_num, Ho2.out, SR.out⟩
          case measure => simp [intOf]; omega
    · obtain rfl : y = P := by omega
      have HO2 : Hid (Own .i64 2 w1 W.heap.size v1 (suL k kh kw sh sw tp lf bt rt h w c CN p zs bs xs N)) := by rw [← HNN.out]; exact O1.out
      go_wp2
      go_ret
      exact ⟨⟨_, rfl, HO2.out⟩, S1.out.below⟩
end Go.Proofs.YtmcdpbnpnifdfaaGreat

/- The document's Make of layer 11. -/
namespace Go.Proofs.YtmcdpbnpnifdfaaGreat
open Go.ChangeShapes Go.WideShapes Go.ChangeAt Go.RowKit
set_option linter.unusedVariables false
/-- 'append' of numbers in a region of a class of worlds. -/
theorem stepO {k : IntKind} {T S : TypeId} {by8 : Nat} (kt : KT k T S by8) {ops : Array Oper} {md : Region.Mode} {C : World → Prop} {Q : Exit → Act → World → Prop} (i : Nat) {o : Oper} {fuel : Nat} {listed : Array Bool} {a : Act} {w : World} (hC : C w) (hr : Region.ready md ops listed = [i]) (ho : ops[i]? = some o) (hg : o.guard = none)
    (s x : Operand) (hop : o.op = .call { callee := .builtin .append, args := #[s, x], argTypes := #[S, S] })
    (base : Nat) (v : Value) (xs ys : List Int) (hs : a.eval s = v) (hown : Own k T w base v xs) (ad : Addr) (m c : Nat) (hx : a.eval x = .slice (some ad) m c) (hy : IRow k w (some ad) m c ys) (hlen : xs.length + ys.length ≤ 10000000) (hbase : base ≤ w.heap.size)
    (h : ∀ v' w', Own k T w' base v' (xs ++ ys) → w.grownBy w' v.ownBlock → wpAnyC Fence.wide 3 Tryz.prog md ops C Q fuel (listed.setIfInBounds i true) (a.put o.dst v') w') : wpAnyC Fence.wide 3 Tryz.prog md ops C Q (fuel + 1) listed a w :=
  stepW i hC hr ho hg fun K hK => by
    have := step_ap kt (ops := #[]) (K := K) (Q := Q) (E := False) hg s x hop base v xs ys hs hown ad m c hx hy hlen hbase fun v' w' h1 h2 => hK _ _ (h v' w' h1 h2)
    rwa [if_pos (by simp [Region.wanted, hg])] at this
theorem map_take_succ {xs : List Int} {f : Int → Int} {y : Nat} {u : Int} (h : xs[y]? = some u) : (xs.take (y + 1)).map f = (xs.take y).map f ++ [f u] := by
  rw [List.take_add_one, h, List.map_append]; rfl
set_option maxRecDepth 100000 in
set_option maxHeartbeats 8000000 in
theorem make_s (k a b m kh kw sh sw tp lf bt rt : Int) (wa : Option Addr) (lw wc : Nat) (ba : Option Addr) (lb bc : Nat) (sm ss um us z p lo hi h w c H V C : Int) (W : World) (s : Sit k kh kw sh sw tp lf bt rt h w c H V C lw lb) (ad : Option Addr) (n cap : Nat) (bd : Option Addr) (nb capb : Nat) (SS : List Int) (hl : SS.length ≤ 16384) (hbd : ∀ v ∈ SS, -4294967296 ≤ v ∧ v ≤ 4294967296)
    (hS : Hid (∀ (w' : World), Below W.heap.size W w' → Calls Tryz.prog 27 #[.agg #[.int .i64 k, .int .i64 a, .int .i64 b, .int .i64 m, .int .i64 kh, .int .i64 kw, .int .i64 sh, .int .i64 sw, .int .i64 tp, .int .i64 lf, .int .i64 bt, .int .i64 rt, .slice wa lw wc, .slice ba lb bc, .int .i64 sm, .int .i64 ss, .int .i64 um, .int .i64 us, .int .i64 z, .int .i64 p, .int .i64 lo, .int .i64 hi, .int .i64 h, .int .i64 w, .int .i64 c, .int .i64 H, .int .i64 V, .int .i64 C], .slice ad n cap] w' fun e w'' => (∃ v, e = .returned v ∧ Own .i64 2 w'' w'.heap.size v SS) ∧ Below w'.heap.size w' w'')) :
    Calls Tryz.prog 14 #[.agg #[.int .i64 k, .int .i64 a, .int .i64 b, .int .i64 m, .int .i64 kh, .int .i64 kw, .int .i64 sh, .int .i64 sw, .int .i64 tp, .int .i64 lf, .int .i64 bt, .int .i64 rt, .slice wa lw wc, .slice ba lb bc, .int .i64 sm, .int .i64 ss, .int .i64 um, .int .i64 us, .int .i64 z, .int .i64 p, .int .i64 lo, .int .i64 hi], .agg #[.int .i64 h, .int .i64 w, .int .i64 c], .agg #[.int .i64 H, .int .i64 V, .int .i64 C], .slice ad n cap, .slice bd nb capb] W fun e w' => (∃ v, e = .returned v ∧ Own .i8 41 w' W.heap.size v (SS.map fun t => hoV k sm ss z lo hi t (stR k kh kw h w c))) ∧ Below W.heap.size W w' := by
  have hk := s.1
  have HLe : Hid (∀ W', Calls Tryz.prog 29 #[.agg #[.int .i64 k, .int .i64 a, .int .i64 b, .int .i64 m, .int .i64 kh, .int .i64 kw, .int .i64 sh, .int .i64 sw, .int .i64 tp, .int .i64 lf, .int .i64 bt, .int .i64 rt, .slice wa lw wc, .slice ba lb bc, .int .i64 sm, .int .i64 ss, .int .i64 um, .int .i64 us, .int .i64 z, .int .i64 p, .int .i64 lo, .int .i64 hi, .int .i64 h, .int .i64 w, .int .i64 c, .int .i64 H, .int .i64 V, .int .i64 C]] W' fun e w' => e = .returned (.int .i64 (stR k kh kw h w c)) ∧ Below W'.heap.size W' w') := fun W' => rlen_any k a b m kh kw sh sw tp lf bt rt wa lw wc ba lb bc sm ss um us z p lo hi h w c H V C W' s
  have hst : 1 ≤ stR k kh kw h w c ∧ stR k kh kw h w c ≤ 512 := ⟨s.2.2.2.2.2.2.2.2.1, s.2.2.2.2.2.2.2.2.2⟩
  obtain ⟨st, hste⟩ : ∃ st, stR k kh kw h w c = st := ⟨_, rfl⟩
  rw [hste] at HLe hst ⊢
  have HHo : Hid (∀ (W' : World) (t : Int), t ∈ SS → Calls Tryz.prog 28 #[.agg #[.int .i64 k, .int .i64 a, .int .i64 b, .int .i64 m, .int .i64 kh, .int .i64 kw, .int .i64 sh, .int .i64 sw, .int .i64 tp, .int .i64 lf, .int .i64 bt, .int .i64 rt, .slice wa lw wc, .slice ba lb bc, .int .i64 sm, .int .i64 ss, .int .i64 um, .int .i64 us, .int .i64 z, .int .i64 p, .int .i64 lo, .int .i64 hi], .int .i64 t, .int .i64 st] W' fun e w' => e = .returned (.int .i8 (hoV k sm ss z lo hi t st)) ∧ Below W'.heap.size W' w') := fun W' t ht => home_any k a b m kh kw sh sw tp lf bt rt wa lw wc ba lb bc sm ss um us z p lo hi t st W' (by have := hbd t ht; unfold I64; omega) (by unfold I64; omega)
  have H8 : Hid (∀ t, I8 (hoV k sm ss z lo hi t st)) := fun t => by unfold hoV; split <;> exact fiV_i8
  have hrd : rdB k = true := decide_eq_true hk
  obtain ⟨N, hN⟩ : ∃ N, SS.length = N := ⟨_, rfl⟩
  rw [hN] at hl
  have HN : Hid (SS.length = N) := hN
  have HF : Hid (∀ y u, SS[y]? = some u → (SS.take (y + 1)).map (fun t => hoV k sm ss z lo hi t st) = (SS.take y).map (fun t => hoV k sm ss z lo hi t st) ++ [hoV k sm ss z lo hi u st]) := fun y u h => map_take_succ h
  have s0 := (((St.start W).new (c := #[.int .i64 k, .int .i64 a, .int .i64 b, .int .i64 m, .int .i64 kh, .int .i64 kw, .int .i64 sh, .int .i64 sw, .int .i64 tp, .int .i64 lf, .int .i64 bt, .int .i64 rt, .slice wa lw wc, .slice ba lb bc, .int .i64 sm, .int .i64 ss, .int .i64 um, .int .i64 us, .int .i64 z, .int .i64 p, .int .i64 lo, .int .i64 hi]) (t := 49)).new (c := #[.int .i64 h, .int .i64 w, .int .i64 c]) (t := 23)).new (c := #[.int .i64 H, .int .i64 V, .int .i64 C]) (t := 23)
  simp only [World.size_alloc] at s0
  have S0 : Hid (St W _ [(W.heap.size + 1 + 1, #[.int .i64 H, .int .i64 V, .int .i64 C], 23), (W.heap.size + 1, #[.int .i64 h, .int .i64 w, .int .i64 c], 23), (W.heap.size, #[.int .i64 k, .int .i64 a, .int .i64 b, .int .i64 m, .int .i64 kh, .int .i64 kw, .int .i64 sh, .int .i64 sw, .int .i64 tp, .int .i64 lf, .int .i64 bt, .int .i64 rt, .slice wa lw wc, .slice ba lb bc, .int .i64 sm, .int .i64 ss, .int .i64 um, .int .i64 us, .int .i64 z, .int .i64 p, .int .i64 lo, .int .i64 hi], 49)]) := s0
  clear s hste hbd s0 hN
  go_enter Tryz.func14, Tryz.ntmps14
  go_wp2_with fail
  refine (rred_any _ _).mono ?_
  rintro e w1 ⟨rfl, hw1⟩
  have hw1' := hw1.symm
  subst hw1'
  clear hw1
  rw [hrd]
  go_upto_region 3 with fail
  obtain ⟨w1, hw1⟩ : ∃ w1, ((W.alloc (.cells #[.int .i64 k, .int .i64 a, .int .i64 b, .int .i64 m, .int .i64 kh, .int .i64 kw, .int .i64 sh, .int .i64 sw, .int .i64 tp, .int .i64 lf, .int .i64 bt, .int .i64 rt, .slice wa lw wc, .slice ba lb bc, .int .i64 sm, .int .i64 ss, .int .i64 um, .int .i64 us, .int .i64 z, .int .i64 p, .int .i64 lo, .int .i64 hi] 49)).alloc (.cells #[.int .i64 h, .int .i64 w, .int .i64 c] 23)).alloc (.cells #[.int .i64 H, .int .i64 V, .int .i64 C] 23) = w1 := ⟨_, rfl⟩
  rw [hw1] at S0 ⊢
  clear hw1
  obtain ⟨vr, hvr⟩ : ∃ vr, Value.agg #[.int .i64 k, .int .i64 a, .int .i64 b, .int .i64 m, .int .i64 kh, .int .i64 kw, .int .i64 sh, .int .i64 sw, .int .i64 tp, .int .i64 lf, .int .i64 bt, .int .i64 rt, .slice wa lw wc, .slice ba lb bc, .int .i64 sm, .int .i64 ss, .int .i64 um, .int .i64 us, .int .i64 z, .int .i64 p, .int .i64 lo, .int .i64 hi, .int .i64 h, .int .i64 w, .int .i64 c, .int .i64 H, .int .i64 V, .int .i64 C] = vr := ⟨_, rfl⟩
  have HVR : Hid (Value.agg #[.int .i64 k, .int .i64 a, .int .i64 b, .int .i64 m, .int .i64 kh, .int .i64 kw, .int .i64 sh, .int .i64 sw, .int .i64 tp, .int .i64 lf, .int .i64 bt, .int .i64 rt, .slice wa lw wc, .slice ba lb bc, .int .i64 sm, .int .i64 ss, .int .i64 um, .int .i64 us, .int .i64 z, .int .i64 p, .int .i64 lo, .int .i64 hi, .int .i64 h, .int .i64 w, .int .i64 c, .int .i64 H, .int .i64 V, .int .i64 C] = vr) := hvr
  have s1 := S0.out.new (c := #[.int .i64 k, .int .i64 a, .int .i64 b, .int .i64 m, .int .i64 kh, .int .i64 kw, .int .i64 sh, .int .i64 sw, .int .i64 tp, .int .i64 lf, .int .i64 bt, .int .i64 rt, .slice wa lw wc, .slice ba lb bc, .int .i64 sm, .int .i64 ss, .int .i64 um, .int .i64 us, .int .i64 z, .int .i64 p, .int .i64 lo, .int .i64 hi, .int .i64 h, .int .i64 w, .int .i64 c, .int .i64 H, .int .i64 V, .int .i64 C]) (t := 71)
  obtain ⟨c1, f1, z1, c2, f2, z2, -⟩ := S0.out.rules
  go_upto_region 4 with (first
    | (refine wpList_load_row rfl 49 (.tmp 5) rfl W.heap.size rfl 49 _ (0, 0) _ S0.out.h3 Tryz.underlying49 rfl (by kernel_rfl) ?_)
    | (refine wpList_run1 rfl (some 12) rfl (.pointer (some ⟨w1.heap.size, 0, none⟩)) (w1.alloc (.cells #[.int .i64 0, .int .i64 0, .int .i64 0, .int .i64 0, .int .i64 0, .int .i64 0, .int .i64 0, .int .i64 0, .int .i64 0, .int .i64 0, .int .i64 0, .int .i64 0, .slice none 0 0, .slice none 0 0, .int .i64 0, .int .i64 0, .int .i64 0, .int .i64 0, .int .i64 0, .int .i64 0, .int .i64 0, .int .i64 0, .int .i64 0, .int .i64 0, .int .i64 0, .int .i64 0, .int .i64 0, .int .i64 0] 71)) (by kernel_rfl) ?_; refine wpList_st_new rfl 71 (.tmp 12) (.tmp 22) rfl w1 #[.int .i64 0, .int .i64 0, .int .i64 0, .int .i64 0, .int .i64 0, .int .i64 0, .int .i64 0, .int .i64 0, .int .i64 0, .int .i64 0, .int .i64 0, .int .i64 0, .slice none 0 0, .slice none 0 0, .int .i64 0, .int .i64 0, .int .i64 0, .int .i64 0, .int .i64 0, .int .i64 0, .int .i64 0, .int .i64 0, .int .i64 0, .int .i64 0, .int .i64 0, .int .i64 0, .int .i64 0, .int .i64 0] #[.int .i64 k, .int .i64 a, .int .i64 b, .int .i64 m, .int .i64 kh, .int .i64 kw, .int .i64 sh, .int .i64 sw, .int .i64 tp, .int .i64 lf, .int .i64 bt, .int .i64 rt, .slice wa lw wc, .slice ba lb bc, .int .i64 sm, .int .i64 ss, .int .i64 um, .int .i64 us, .int .i64 z, .int .i64 p, .int .i64 lo, .int .i64 hi, .int .i64 h, .int .i64 w, .int .i64 c, .int .i64 H, .int .i64 V, .int .i64 C] (by kernel_rfl) (Eq.trans (by kernel_rfl : _ = vr) HVR.out.symm) (by kernel_rfl) rfl (by simp [Value.oneCell']) ?_))
  obtain ⟨sb, hsb⟩ : ∃ sb, w1.heap.size = sb := ⟨_, rfl⟩
  obtain ⟨w2, hw2⟩ : ∃ w2, w1.alloc (.cells #[.int .i64 k, .int .i64 a, .int .i64 b, .int .i64 m, .int .i64 kh, .int .i64 kw, .int .i64 sh, .int .i64 sw, .int .i64 tp, .int .i64 lf, .int .i64 bt, .int .i64 rt, .slice wa lw wc, .slice ba lb bc, .int .i64 sm, .int .i64 ss, .int .i64 um, .int .i64 us, .int .i64 z, .int .i64 p, .int .i64 lo, .int .i64 hi, .int .i64 h, .int .i64 w, .int .i64 c, .int .i64 H, .int .i64 V, .int .i64 C] 71) = w2 := ⟨_, rfl⟩
  rw [hw2, hsb] at s1
  rw [hw2, hsb]
  have S2 : Hid (St W w2 [(sb, #[.int .i64 k, .int .i64 a, .int .i64 b, .int .i64 m, .int .i64 kh, .int .i64 kw, .int .i64 sh, .int .i64 sw, .int .i64 tp, .int .i64 lf, .int .i64 bt, .int .i64 rt, .slice wa lw wc, .slice ba lb bc, .int .i64 sm, .int .i64 ss, .int .i64 um, .int .i64 us, .int .i64 z, .int .i64 p, .int .i64 lo, .int .i64 hi, .int .i64 h, .int .i64 w, .int .i64 c, .int .i64 H, .int .i64 V, .int .i64 C], 71), (W.heap.size + 1 + 1, #[.int .i64 H, .int .i64 V, .int .i64 C], 23), (W.heap.size + 1, #[.int .i64 h, .int .i64 w, .int .i64 c], 23), (W.heap.size, #[.int .i64 k, .int .i64 a, .int .i64 b, .int .i64 m, .int .i64 kh, .int .i64 kw, .int .i64 sh, .int .i64 sw, .int .i64 tp, .int .i64 lf, .int .i64 bt, .int .i64 rt, .slice wa lw wc, .slice ba lb bc, .int .i64 sm, .int .i64 ss, .int .i64 um, .int .i64 us, .int .i64 z, .int .i64 p, .int .i64 lo, .int .i64 hi], 49)]) := s1
  clear hw2 hsb s1 S0 c1 f1 z1 c2 f2 z2 hvr HVR
  go_wp2_with (refine wpList_load_row rfl 71 (.tmp 12) rfl sb rfl 71 _ (0, 0) _ S2.out.h1 Tryz.underlying71 rfl (by kernel_rfl) ?_)
  refine Calls.mono (hS.out _ S2.out.below) ?_
  rintro e w3 ⟨⟨v, rfl, hO⟩, hb⟩
  have S3 : Hid (St W w3 [(sb, #[.int .i64 k, .int .i64 a, .int .i64 b, .int .i64 m, .int .i64 kh, .int .i64 kw, .int .i64 sh, .int .i64 sw, .int .i64 tp, .int .i64 lf, .int .i64 bt, .int .i64 rt, .slice wa lw wc, .slice ba lb bc, .int .i64 sm, .int .i64 ss, .int .i64 um, .int .i64 us, .int .i64 z, .int .i64 p, .int .i64 lo, .int .i64 hi, .int .i64 h, .int .i64 w, .int .i64 c, .int .i64 H, .int .i64 V, .int .i64 C], 71), (W.heap.size + 1 + 1, #[.int .i64 H, .int .i64 V, .int .i64 C], 23), (W.heap.size + 1, #[.int .i64 h, .int .i64 w, .int .i64 c], 23), (W.heap.size, #[.int .i64 k, .int .i64 a, .int .i64 b, .int .i64 m, .int .i64 kh, .int .i64 kw, .int .i64 sh, .int .i64 sw, .int .i64 tp, .int .i64 lf, .int .i64 bt, .int .i64 rt, .slice wa lw wc, .slice ba lb bc, .int .i64 sm, .int .i64 ss, .int .i64 um, .int .i64 us, .int .i64 z, .int .i64 p, .int .i64 lo, .int .i64 hi], 49)]) := S2.out.call hb
  obtain ⟨va, vc, rfl, hrow, -⟩ := hO.row
  rw [HN.out] at hO ⊢
  have HO3 : Hid (Own .i64 2 w3 W.heap.size (.slice va N vc) SS) := hO.base S2.out.size
  have hv1 := hrow.2.1
  have hv2 := hrow.2.2.1
  rw [HN.out] at hv1
  unfold maxLen at hv2
  clear hb hO hrow S2 hS
  go_wp2
  have Ho0 : Hid (Own .i8 41 w3 W.heap.size (.slice none 0 0) []) := own_none _ _ _ _
  go_loopw [11, 27] (fun v i wr => ∃ (y : Nat) (v1 : Value), v1 = v ∧ y ≤ N ∧ i = .int .i64 y ∧ Own .i8 41 wr W.heap.size v ((SS.take y).map (fun t => hoV k sm ss z lo hi t st)) ∧ Own .i64 2 wr W.heap.size (.slice va N vc) SS ∧ St W wr [(sb, #[.int .i64 k, .int .i64 a, .int .i64 b, .int .i64 m, .int .i64 kh, .int .i64 kw, .int .i64 sh, .int .i64 sw, .int .i64 tp, .int .i64 lf, .int .i64 bt, .int .i64 rt, .slice wa lw wc, .slice ba lb bc, .int .i64 sm, .int .i64 ss, .int .i64 um, .int .i64 us, .int .i64 z, .int .i64 p, .int .i64 lo, .int .i64 hi, .int .i64 h, .int .i64 w, .int .i64 c, .int .i64 H, .int .i64 V, .int .i64 C], 71), (W.heap.size + 1 + 1, #[.int .i64 H, .int .i64 V, .int .i64 C], 23), (W.heap.size + 1, #[.int .i64 h, .int .i64 w, .int .i64 c], 23), (W.heap.size, #[.int .i64 k, .int .i64 a, .int .i64 b, .int .i64 m, .int .i64 kh, .int .i64 kw, .int .i64 sh, .int .i64 sw, .int .i64 tp, .int .i64 lf, .int .i64 bt, .int .i64 rt, .slice wa lw wc, .slice ba lb bc, .int .i64 sm, .int .i64 ss, .int .i64 um, .int .i64 us, .int .i64 z, .int .i64 p, .int .i64 lo, .int .i64 hi], 49)]) (fun _ i _ => N - (intOf i).toNat)
  case atStart => exact ⟨0, _, rfl, Nat.zero_le _, rfl, by simpa using Ho0.out, HO3.out, S3.out⟩
  case round =>
    obtain ⟨y, v1, rfl, hy, rfl, hO, hQ, sr⟩ := hrel
    clear Ho0 HO3 S3
    have HO : Hid (Own .i8 41 wr W.heap.size v1 ((SS.take y).map (fun t => hoV k sm ss z lo hi t st))) := hO
    have HQ : Hid (Own .i64 2 wr W.heap.size (.slice va N vc) SS) := hQ
    have SR : Hid (St W wr [(sb, #[.int .i64 k, .int .i64 a, .int .i64 b, .int .i64 m, .int .i64 kh, .int .i64 kw, .int .i64 sh, .int .i64 sw, .int .i64 tp, .int .i64 lf, .int .i64 bt, .int .i64 rt, .slice wa lw wc, .slice ba lb bc, .int .i64 sm, .int .i64 ss, .int .i64 um, .int .i64 us, .int .i64 z, .int .i64 p, .int .i64 lo, .int .i64 hi, .int .i64 h, .int .i64 w, .int .i64 c, .int .i64 H, .int .i64 V, .int .i64 C], 71), (W.heap.size + 1 + 1, #[.int .i64 H, .int .i64 V, .int .i64 C], 23), (W.heap.size + 1, #[.int .i64 h, .int .i64 w, .int .i64 c], 23), (W.heap.size, #[.int .i64 k, .int .i64 a, .int .i64 b, .int .i64 m, .int .i64 kh, .int .i64 kw, .int .i64 sh, .int .i64 sw, .int .i64 tp, .int .i64 lf, .int .i64 bt, .int .i64 rt, .slice wa lw wc, .slice ba lb bc, .int .i64 sm, .int .i64 ss, .int .i64 um, .int .i64 us, .int .i64 z, .int .i64 p, .int .i64 lo, .int .i64 hi], 49)]) := sr
    clear hO hQ sr
    by_cases hlt : y < N
    · obtain ⟨x, u, rfl, hu, -, hz, -⟩ := HQ.out.irow.at hlt
      have hmem : u ∈ SS := List.mem_of_getElem? hz
      have HH : Hid (∀ W', _) := fun W' => HHo.out W' u hmem
      have HFF := HF.out y u hz
      have h8 := H8.out u
      obtain ⟨F, hFe⟩ : ∃ F, hoV k sm ss z lo hi u st = F := ⟨_, rfl⟩
      rw [hFe] at HH HFF h8
      have HFS : Hid ((SS.take (y + 1)).map (fun t => hoV k sm ss z lo hi t st) = (SS.take y).map (fun t => hoV k sm ss z lo hi t st) ++ [F]) := HFF
      have H8F : Hid (I8 F) := h8
      have hG1 := SR.out.h1
      have hG4 := SR.out.h4
      clear hz hmem hFe HFF h8
      go_wp2
      refine regionC (fun w' => w'.heap[sb]? = some (.cells #[.int .i64 k, .int .i64 a, .int .i64 b, .int .i64 m, .int .i64 kh, .int .i64 kw, .int .i64 sh, .int .i64 sw, .int .i64 tp, .int .i64 lf, .int .i64 bt, .int .i64 rt, .slice wa lw wc, .slice ba lb bc, .int .i64 sm, .int .i64 ss, .int .i64 um, .int .i64 us, .int .i64 z, .int .i64 p, .int .i64 lo, .int .i64 hi, .int .i64 h, .int .i64 w, .int .i64 c, .int .i64 H, .int .i64 V, .int .i64 C] 71 (0, 0)) ∧ w'.heap[W.heap.size]? = some (.cells #[.int .i64 k, .int .i64 a, .int .i64 b, .int .i64 m, .int .i64 kh, .int .i64 kw, .int .i64 sh, .int .i64 sw, .int .i64 tp, .int .i64 lf, .int .i64 bt, .int .i64 rt, .slice wa lw wc, .slice ba lb bc, .int .i64 sm, .int .i64 ss, .int .i64 um, .int .i64 us, .int .i64 z, .int .i64 p, .int .i64 lo, .int .i64 hi] 49 (0, 0))) (by kernel_rfl) ?_
      obtain ⟨wd, hwd⟩ : ∃ wd, wr.drew = wd := ⟨_, rfl⟩
      have HC : Hid (∀ w', Below wr.heap.size wr w' → w'.heap[sb]? = some (.cells #[.int .i64 k, .int .i64 a, .int .i64 b, .int .i64 m, .int .i64 kh, .int .i64 kw, .int .i64 sh, .int .i64 sw, .int .i64 tp, .int .i64 lf, .int .i64 bt, .int .i64 rt, .slice wa lw wc, .slice ba lb bc, .int .i64 sm, .int .i64 ss, .int .i64 um, .int .i64 us, .int .i64 z, .int .i64 p, .int .i64 lo, .int .i64 hi, .int .i64 h, .int .i64 w, .int .i64 c, .int .i64 H, .int .i64 V, .int .i64 C] 71 (0, 0)) ∧ w'.heap[W.heap.size]? = some (.cells #[.int .i64 k, .int .i64 a, .int .i64 b, .int .i64 m, .int .i64 kh, .int .i64 kw, .int .i64 sh, .int .i64 sw, .int .i64 tp, .int .i64 lf, .int .i64 bt, .int .i64 rt, .slice wa lw wc, .slice ba lb bc, .int .i64 sm, .int .i64 ss, .int .i64 um, .int .i64 us, .int .i64 z, .int .i64 p, .int .i64 lo, .int .i64 hi] 49 (0, 0))) := fun w' hb => ⟨(hb.block _ (lt_of_heap hG1)).trans hG1, (hb.block _ (lt_of_heap hG4)).trans hG4⟩
      have HD : Hid (Below wr.heap.size wr wd) := by unfold Hid; rw [← hwd]; exact (Below.refl _ _).drew
      rw [hwd]
      clear hwd hG1 hG4 hu
      refine takeC 0 (v := v1) rfl rfl (by kernel_rfl) (by kernel_rfl) (by kernel_rfl) (fun _ _ _ h => h) (fun _ => rfl) rfl (fun w' hw' => by go_simp) ?_
      refine takeC 1 (v := .agg #[.int .i64 k, .int .i64 a, .int .i64 b, .int .i64 m, .int .i64 kh, .int .i64 kw, .int .i64 sh, .int .i64 sw, .int .i64 tp, .int .i64 lf, .int .i64 bt, .int .i64 rt, .slice wa lw wc, .slice ba lb bc, .int .i64 sm, .int .i64 ss, .int .i64 um, .int .i64 us, .int .i64 z, .int .i64 p, .int .i64 lo, .int .i64 hi]) rfl rfl (by kernel_rfl) (by kernel_rfl) (by kernel_rfl) (fun _ _ _ h => h) (fun _ => rfl) rfl (fun w' hw' => run_la 49 (.tmp 5) rfl ⟨W.heap.size, 0, none⟩ (by kernel_rfl) [.int .i64 k, .int .i64 a, .int .i64 b, .int .i64 m, .int .i64 kh, .int .i64 kw, .int .i64 sh, .int .i64 sw, .int .i64 tp, .int .i64 lf, .int .i64 bt, .int .i64 rt, .slice wa lw wc, .slice ba lb bc, .int .i64 sm, .int .i64 ss, .int .i64 um, .int .i64 us, .int .i64 z, .int .i64 p, .int .i64 lo, .int .i64 hi] _ (lcells hw'.2 (fget [.int .i64 k, .int .i64 a, .int .i64 b, .int .i64 m, .int .i64 kh, .int .i64 kw, .int .i64 sh, .int .i64 sw, .int .i64 tp, .int .i64 lf, .int .i64 bt, .int .i64 rt, .slice wa lw wc, .slice ba lb bc, .int .i64 sm, .int .i64 ss, .int .i64 um, .int .i64 us, .int .i64 z, .int .i64 p, .int .i64 lo, .int .i64 hi] [])) Tryz.underlying49 rfl (by kernel_rfl)) ?_
      refine takeC 2 (v := .int .i64 u) rfl rfl (by kernel_rfl) (by kernel_rfl) (by kernel_rfl) (fun _ _ _ h => h) (fun _ => rfl) rfl (fun w' hw' => by go_simp) ?_
      refine takeC 3 (v := .agg #[.int .i64 k, .int .i64 a, .int .i64 b, .int .i64 m, .int .i64 kh, .int .i64 kw, .int .i64 sh, .int .i64 sw, .int .i64 tp, .int .i64 lf, .int .i64 bt, .int .i64 rt, .slice wa lw wc, .slice ba lb bc, .int .i64 sm, .int .i64 ss, .int .i64 um, .int .i64 us, .int .i64 z, .int .i64 p, .int .i64 lo, .int .i64 hi, .int .i64 h, .int .i64 w, .int .i64 c, .int .i64 H, .int .i64 V, .int .i64 C]) rfl rfl (by kernel_rfl) (by kernel_rfl) (by kernel_rfl) (fun _ _ _ h => h) (fun _ => rfl) rfl (fun w' hw' => run_la 71 (.tmp 12) rfl ⟨sb, 0, none⟩ (by kernel_rfl) [.int .i64 k, .int .i64 a, .int .i64 b, .int .i64 m, .int .i64 kh, .int .i64 kw, .int .i64 sh, .int .i64 sw, .int .i64 tp, .int .i64 lf, .int .i64 bt, .int .i64 rt, .slice wa lw wc, .slice ba lb bc, .int .i64 sm, .int .i64 ss, .int .i64 um, .int .i64 us, .int .i64 z, .int .i64 p, .int .i64 lo, .int .i64 hi, .int .i64 h, .int .i64 w, .int .i64 c, .int .i64 H, .int .i64 V, .int .i64 C] _ (lcells hw'.1 (fget [.int .i64 k, .int .i64 a, .int .i64 b, .int .i64 m, .int .i64 kh, .int .i64 kw, .int .i64 sh, .int .i64 sw, .int .i64 tp, .int .i64 lf, .int .i64 bt, .int .i64 rt, .slice wa lw wc, .slice ba lb bc, .int .i64 sm, .int .i64 ss, .int .i64 um, .int .i64 us, .int .i64 z, .int .i64 p, .int .i64 lo, .int .i64 hi, .int .i64 h, .int .i64 w, .int .i64 c, .int .i64 H, .int .i64 V, .int .i64 C] [])) Tryz.underlying71 rfl (by kernel_rfl)) ?_
      refine stepK 4 (HC.out _ HD.out) (by kernel_rfl) rfl rfl 29 #[.agg #[.int .i64 k, .int .i64 a, .int .i64 b, .int .i64 m, .int .i64 kh, .int .i64 kw, .int .i64 sh, .int .i64 sw, .int .i64 tp, .int .i64 lf, .int .i64 bt, .int .i64 rt, .slice wa lw wc, .slice ba lb bc, .int .i64 sm, .int .i64 ss, .int .i64 um, .int .i64 us, .int .i64 z, .int .i64 p, .int .i64 lo, .int .i64 hi, .int .i64 h, .int .i64 w, .int .i64 c, .int .i64 H, .int .i64 V, .int .i64 C]] (by kernel_rfl) (HLe.out wd) ?_
      rintro e w4 ⟨rfl, hb4⟩
      have HB4 : Hid (Below wr.heap.size wr w4) := btr HD.out hb4
      clear hb4
      refine ⟨_, rfl, ?_⟩
      refine stepK 5 (HC.out _ HB4.out) (by kernel_rfl) rfl rfl 28 #[.agg #[.int .i64 k, .int .i64 a, .int .i64 b, .int .i64 m, .int .i64 kh, .int .i64 kw, .int .i64 sh, .int .i64 sw, .int .i64 tp, .int .i64 lf, .int .i64 bt, .int .i64 rt, .slice wa lw wc, .slice ba lb bc, .int .i64 sm, .int .i64 ss, .int .i64 um, .int .i64 us, .int .i64 z, .int .i64 p, .int .i64 lo, .int .i64 hi], .int .i64 u, .int .i64 st] (by kernel_rfl) (HH.out w4) ?_
      rintro e w5 ⟨rfl, hb5⟩
      have HB5 : Hid (Below wr.heap.size wr w5) := btr HB4.out hb5
      clear hb5
      refine ⟨_, rfl, ?_⟩
      refine stepR 6 (HC.out _ HB5.out) (by kernel_rfl) rfl rfl (.slice (some ⟨w5.heap.size, 0, none⟩) 1 1) (w5.alloc (.cells #[.int .i8 F] 41)) (by kernel_rfl) ?_
      have HB6 : Hid (Below wr.heap.size wr (w5.alloc (.cells #[.int .i8 F] 41))) := btr HB5.out (bal _ _)
      have hO6 : Hid (Own .i8 41 (w5.alloc (.cells #[.int .i8 F] 41)) W.heap.size v1 ((SS.take y).map (fun t => hoV k sm ss z lo hi t st))) := HO.out.below HB6.out
      have hQ6 : Hid (Own .i64 2 (w5.alloc (.cells #[.int .i8 F] 41)) W.heap.size (.slice (some x) N vc) SS) := HQ.out.below HB6.out
      have hR6 : Hid (IRow .i8 (w5.alloc (.cells #[.int .i8 F] 41)) (some ⟨w5.heap.size, 0, none⟩) 1 1 [F]) := row_one .i8 41 w5 F (mk_i8 H8F.out)
      have S6 : Hid (St W (w5.alloc (.cells #[.int .i8 F] 41)) [(sb, #[.int .i64 k, .int .i64 a, .int .i64 b, .int .i64 m, .int .i64 kh, .int .i64 kw, .int .i64 sh, .int .i64 sw, .int .i64 tp, .int .i64 lf, .int .i64 bt, .int .i64 rt, .slice wa lw wc, .slice ba lb bc, .int .i64 sm, .int .i64 ss, .int .i64 um, .int .i64 us, .int .i64 z, .int .i64 p, .int .i64 lo, .int .i64 hi, .int .i64 h, .int .i64 w, .int .i64 c, .int .i64 H, .int .i64 V, .int .i64 C], 71), (W.heap.size + 1 + 1, #[.int .i64 H, .int .i64 V, .int .i64 C], 23), (W.heap.size + 1, #[.int .i64 h, .int .i64 w, .int .i64 c], 23), (W.heap.size, #[.int .i64 k, .int .i64 a, .int .i64 b, .int .i64 m, .int .i64 kh, .int .i64 kw, .int .i64 sh, .int .i64 sw, .int .i64 tp, .int .i64 lf, .int .i64 bt, .int .i64 rt, .slice wa lw wc, .slice ba lb bc, .int .i64 sm, .int .i64 ss, .int .i64 um, .int .i64 us, .int .i64 z, .int .i64 p, .int .i64 lo, .int .i64 hi], 49)]) := SR.out.call HB6.out
      refine stepO kt_i8 7 (HC.out _ HB6.out) (by kernel_rfl) rfl rfl (.tmp 31) (.tmp 37) rfl W.heap.size v1 _ [F] (by kernel_rfl) hO6.out ⟨w5.heap.size, 0, none⟩ 1 1 (by kernel_rfl) hR6.out (by simp; omega) S6.out.size ?_
      intro v7 w7 own7 gr7
      have S7 : Hid (St W w7 [(sb, #[.int .i64 k, .int .i64 a, .int .i64 b, .int .i64 m, .int .i64 kh, .int .i64 kw, .int .i64 sh, .int .i64 sw, .int .i64 tp, .int .i64 lf, .int .i64 bt, .int .i64 rt, .slice wa lw wc, .slice ba lb bc, .int .i64 sm, .int .i64 ss, .int .i64 um, .int .i64 us, .int .i64 z, .int .i64 p, .int .i64 lo, .int .i64 hi, .int .i64 h, .int .i64 w, .int .i64 c, .int .i64 H, .int .i64 V, .int .i64 C], 71), (W.heap.size + 1 + 1, #[.int .i64 H, .int .i64 V, .int .i64 C], 23), (W.heap.size + 1, #[.int .i64 h, .int .i64 w, .int .i64 c], 23), (W.heap.size, #[.int .i64 k, .int .i64 a, .int .i64 b, .int .i64 m, .int .i64 kh, .int .i64 kw, .int .i64 sh, .int .i64 sw, .int .i64 tp, .int .i64 lf, .int .i64 bt, .int .i64 rt, .slice wa lw wc, .slice ba lb bc, .int .i64 sm, .int .i64 ss, .int .i64 um, .int .i64 us, .int .i64 z, .int .i64 p, .int .i64 lo, .int .i64 hi], 49)]) := S6.out.grow hO6.out gr7 (Nat.le_refl _) (by simp)
      have O7 : Hid (Own .i8 41 w7 W.heap.size v7 ((SS.take (y + 1)).map (fun t => hoV k sm ss z lo hi t st))) := by rw [HFS.out]; exact own7
      have Q7 : Hid (Own .i64 2 w7 W.heap.size (.slice (some x) N vc) SS) := hQ6.out.grown gr7 (fun b hb c e => by obtain ⟨c', h'⟩ := own_heap hO6.out.1 hb; rw [h'] at e; simp at e)
      clear own7 gr7 HC
      refine stepR 8 ⟨S7.out.h1, S7.out.h4⟩ (by kernel_rfl) rfl rfl v7 w7 (by kernel_rfl) ?_
      refine doneC ⟨S7.out.h1, S7.out.h4⟩ (by kernel_rfl) ?_ _
      go_wp2
      go_roundw
      case rel => exact ⟨y + 1, _, rfl, by omega, by go_num, O7.out, Q7.out, S7.out⟩
      case measure => simp [intOf]; omega
    · obtain rfl : y = N := by omega
      have HO2 : Hid (Own .i8 41 wr W.heap.size v1 (SS.map (fun t => hoV k sm ss z lo hi t st))) := by
        have := HO.out
        rw [← HN.out, List.take_length] at this
        exact this
      go_wp2
      go_ret
      exact ⟨⟨_, rfl, HO2.out⟩, SR.out.below⟩
set_option maxRecDepth 100000 in
set_option maxHeartbeats 4000000 in
theorem make_g (k a b m kh kw sh sw tp lf bt rt : Int) (wa : Option Addr) (lw wc : Nat) (ba : Option Addr) (lb bc : Nat) (sm ss um us z p lo hi h w c H V C : Int) (W : World) (hk : k = 5) (ad : Option Addr) (n cap : Nat) (bd : Option Addr) (nb capb : Nat) (TS : List Int)
    (hG : Hid (∀ (w' : World), Below W.heap.size W w' → Calls Tryz.prog 30 #[.agg #[.int .i64 k, .int .i64 a, .int .i64 b, .int .i64 m, .int .i64 kh, .int .i64 kw, .int .i64 sh, .int .i64 sw, .int .i64 tp, .int .i64 lf, .int .i64 bt, .int .i64 rt, .slice wa lw wc, .slice ba lb bc, .int .i64 sm, .int .i64 ss, .int .i64 um, .int .i64 us, .int .i64 z, .int .i64 p, .int .i64 lo, .int .i64 hi], .agg #[.int .i64 h, .int .i64 w, .int .i64 c], .agg #[.int .i64 H, .int .i64 V, .int .i64 C], .slice ad n cap] w' fun e w'' => (∃ v, e = .returned v ∧ Own .i8 41 w'' w'.heap.size v TS) ∧ Below w'.heap.size w' w'')) :
    Calls Tryz.prog 14 #[.agg #[.int .i64 k, .int .i64 a, .int .i64 b, .int .i64 m, .int .i64 kh, .int .i64 kw, .int .i64 sh, .int .i64 sw, .int .i64 tp, .int .i64 lf, .int .i64 bt, .int .i64 rt, .slice wa lw wc, .slice ba lb bc, .int .i64 sm, .int .i64 ss, .int .i64 um, .int .i64 us, .int .i64 z, .int .i64 p, .int .i64 lo, .int .i64 hi], .agg #[.int .i64 h, .int .i64 w, .int .i64 c], .agg #[.int .i64 H, .int .i64 V, .int .i64 C], .slice ad n cap, .slice bd nb capb] W fun e w' => (∃ v, e = .returned v ∧ Own .i8 41 w' W.heap.size v TS) ∧ Below W.heap.size W w' := by
  have hrd : rdB k = false := decide_eq_false (by omega)
  have hk5 : (k == 5) = true := by simp [hk]
  have s0 := (((St.start W).new (c := #[.int .i64 k, .int .i64 a, .int .i64 b, .int .i64 m, .int .i64 kh, .int .i64 kw, .int .i64 sh, .int .i64 sw, .int .i64 tp, .int .i64 lf, .int .i64 bt, .int .i64 rt, .slice wa lw wc, .slice ba lb bc, .int .i64 sm, .int .i64 ss, .int .i64 um, .int .i64 us, .int .i64 z, .int .i64 p, .int .i64 lo, .int .i64 hi]) (t := 49)).new (c := #[.int .i64 h, .int .i64 w, .int .i64 c]) (t := 23)).new (c := #[.int .i64 H, .int .i64 V, .int .i64 C]) (t := 23)
  simp only [World.size_alloc] at s0
  have S0 : Hid (St W _ [(W.heap.size + 1 + 1, #[.int .i64 H, .int .i64 V, .int .i64 C], 23), (W.heap.size + 1, #[.int .i64 h, .int .i64 w, .int .i64 c], 23), (W.heap.size, #[.int .i64 k, .int .i64 a, .int .i64 b, .int .i64 m, .int .i64 kh, .int .i64 kw, .int .i64 sh, .int .i64 sw, .int .i64 tp, .int .i64 lf, .int .i64 bt, .int .i64 rt, .slice wa lw wc, .slice ba lb bc, .int .i64 sm, .int .i64 ss, .int .i64 um, .int .i64 us, .int .i64 z, .int .i64 p, .int .i64 lo, .int .i64 hi], 49)]) := s0
  clear s0 hk
  go_enter Tryz.func14, Tryz.ntmps14
  go_wp2_with fail
  refine (rred_any _ _).mono ?_
  rintro e w1 ⟨rfl, hw1⟩
  have hw1' := hw1.symm
  subst hw1'
  clear hw1
  rw [hrd]
  go_upto_region 10 with fail
  obtain ⟨w1, hw1⟩ : ∃ w1, ((W.alloc (.cells #[.int .i64 k, .int .i64 a, .int .i64 b, .int .i64 m, .int .i64 kh, .int .i64 kw, .int .i64 sh, .int .i64 sw, .int .i64 tp, .int .i64 lf, .int .i64 bt, .int .i64 rt, .slice wa lw wc, .slice ba lb bc, .int .i64 sm, .int .i64 ss, .int .i64 um, .int .i64 us, .int .i64 z, .int .i64 p, .int .i64 lo, .int .i64 hi] 49)).alloc (.cells #[.int .i64 h, .int .i64 w, .int .i64 c] 23)).alloc (.cells #[.int .i64 H, .int .i64 V, .int .i64 C] 23) = w1 := ⟨_, rfl⟩
  rw [hw1] at S0 ⊢
  clear hw1
  obtain ⟨c1, f1, z1, c2, f2, z2, c3, f3, z3, -⟩ := S0.out.rules
  go_wp2_with (refine wpList_load_row rfl 49 (.tmp 5) rfl W.heap.size rfl 49 _ (0, 0) _ S0.out.h3 Tryz.underlying49 rfl (by kernel_rfl) ?_)
  refine Calls.mono (hG.out _ S0.out.below) ?_
  rintro e w2 ⟨⟨v, rfl, hO⟩, hb⟩
  have HO : Hid (Own .i8 41 w2 W.heap.size v TS) := hO.base S0.out.size
  have HB : Hid (Below W.heap.size W w2) := btr S0.out.below hb
  clear hO hb S0 c1 f1 z1 c2 f2 z2 c3 f3 z3
  go_wp2
  go_ret
  exact ⟨⟨_, rfl, HO.out⟩, HB.out⟩
def eaL (k sm ss um us z lo hi : Int) (xs ys : List Int) (n : Nat) : List Int := (List.range n).map fun i => eaV k sm ss um us z lo hi (xs.getD i 0) (ys.getD i 0)
theorem eaL_succ (k sm ss um us z lo hi : Int) (xs ys : List Int) (n : Nat) : eaL k sm ss um us z lo hi xs ys (n + 1) = eaL k sm ss um us z lo hi xs ys n ++ [eaV k sm ss um us z lo hi (xs.getD n 0) (ys.getD n 0)] := by simp [eaL, List.range_succ]
theorem eaL_len (k sm ss um us z lo hi : Int) (xs ys : List Int) (n : Nat) : (eaL k sm ss um us z lo hi xs ys n).length = n := by simp [eaL]
set_option maxRecDepth 100000 in
set_option maxHeartbeats 8000000 in
theorem make_e (k a b m kh kw sh sw tp lf bt rt : Int) (wa : Option Addr) (lw wc : Nat) (ba : Option Addr) (lb bc : Nat) (sm ss um us z p lo hi h w c H V C : Int) (W : World) (hk : 6 ≤ k ∧ k ≤ 8) (ad : Option Addr) (n cap : Nat) (xs : List Int) (hX : IRow .i8 W ad n cap xs) (hn : n ≤ 16384) (bd : Option Addr) (capb : Nat) (ys : List Int) (hY : IRow .i8 W bd n capb ys) :
    Calls Tryz.prog 14 #[.agg #[.int .i64 k, .int .i64 a, .int .i64 b, .int .i64 m, .int .i64 kh, .int .i64 kw, .int .i64 sh, .int .i64 sw, .int .i64 tp, .int .i64 lf, .int .i64 bt, .int .i64 rt, .slice wa lw wc, .slice ba lb bc, .int .i64 sm, .int .i64 ss, .int .i64 um, .int .i64 us, .int .i64 z, .int .i64 p, .int .i64 lo, .int .i64 hi], .agg #[.int .i64 h, .int .i64 w, .int .i64 c], .agg #[.int .i64 H, .int .i64 V, .int .i64 C], .slice ad n cap, .slice bd n capb] W fun e w' => (∃ v, e = .returned v ∧ Own .i8 41 w' W.heap.size v (eaL k sm ss um us z lo hi xs ys n)) ∧ Below W.heap.size W w' := by
  have hrd : rdB k = false := decide_eq_false (by omega)
  have hk5 : (k == 5) = false := by simp; omega
  have HEa : Hid (∀ (W' : World) (u v : Int), I8 u → I8 v → Calls Tryz.prog 31 #[.agg #[.int .i64 k, .int .i64 a, .int .i64 b, .int .i64 m, .int .i64 kh, .int .i64 kw, .int .i64 sh, .int .i64 sw, .int .i64 tp, .int .i64 lf, .int .i64 bt, .int .i64 rt, .slice wa lw wc, .slice ba lb bc, .int .i64 sm, .int .i64 ss, .int .i64 um, .int .i64 us, .int .i64 z, .int .i64 p, .int .i64 lo, .int .i64 hi], .int .i8 u, .int .i8 v] W' fun e w' => e = .returned (.int .i8 (eaV k sm ss um us z lo hi u v)) ∧ Below W'.heap.size W' w') := fun W' u v hu hv => each_any k a b m kh kw sh sw tp lf bt rt wa lw wc ba lb bc sm ss um us z p lo hi u v W' hk hu hv
  have H8 : Hid (∀ u v, I8 (eaV k sm ss um us z lo hi u v)) := fun u v => by unfold eaV; exact fiV_i8
  have HF : Hid (∀ y u v, xs[y]? = some u → ys[y]? = some v → eaL k sm ss um us z lo hi xs ys (y + 1) = eaL k sm ss um us z lo hi xs ys y ++ [eaV k sm ss um us z lo hi u v]) := fun y u v h1 h2 => by
    rw [eaL_succ, List.getD_eq_getElem?_getD, h1, List.getD_eq_getElem?_getD, h2]; rfl
  have HX : Hid (IRow .i8 W ad n cap xs) := hX
  have HY : Hid (IRow .i8 W bd n capb ys) := hY
  have s0 := (((St.start W).new (c := #[.int .i64 k, .int .i64 a, .int .i64 b, .int .i64 m, .int .i64 kh, .int .i64 kw, .int .i64 sh, .int .i64 sw, .int .i64 tp, .int .i64 lf, .int .i64 bt, .int .i64 rt, .slice wa lw wc, .slice ba lb bc, .int .i64 sm, .int .i64 ss, .int .i64 um, .int .i64 us, .int .i64 z, .int .i64 p, .int .i64 lo, .int .i64 hi]) (t := 49)).new (c := #[.int .i64 h, .int .i64 w, .int .i64 c]) (t := 23)).new (c := #[.int .i64 H, .int .i64 V, .int .i64 C]) (t := 23)
  simp only [World.size_alloc] at s0
  have S0 : Hid (St W _ [(W.heap.size + 1 + 1, #[.int .i64 H, .int .i64 V, .int .i64 C], 23), (W.heap.size + 1, #[.int .i64 h, .int .i64 w, .int .i64 c], 23), (W.heap.size, #[.int .i64 k, .int .i64 a, .int .i64 b, .int .i64 m, .int .i64 kh, .int .i64 kw, .int .i64 sh, .int .i64 sw, .int .i64 tp, .int .i64 lf, .int .i64 bt, .int .i64 rt, .slice wa lw wc, .slice ba lb bc, .int .i64 sm, .int .i64 ss, .int .i64 um, .int .i64 us, .int .i64 z, .int .i64 p, .int .i64 lo, .int .i64 hi], 49)]) := s0
  clear s0 hX hY hk
  go_enter Tryz.func14, Tryz.ntmps14
  go_wp2_with fail
  refine (rred_any _ _).mono ?_
  rintro e w1 ⟨rfl, hw1⟩
  have hw1' := hw1.symm
  subst hw1'
  clear hw1
  rw [hrd]
  go_upto_region 10 with fail
  obtain ⟨w1, hw1⟩ : ∃ w1, ((W.alloc (.cells #[.int .i64 k, .int .i64 a, .int .i64 b, .int .i64 m, .int .i64 kh, .int .i64 kw, .int .i64 sh, .int .i64 sw, .int .i64 tp, .int .i64 lf, .int .i64 bt, .int .i64 rt, .slice wa lw wc, .slice ba lb bc, .int .i64 sm, .int .i64 ss, .int .i64 um, .int .i64 us, .int .i64 z, .int .i64 p, .int .i64 lo, .int .i64 hi] 49)).alloc (.cells #[.int .i64 h, .int .i64 w, .int .i64 c] 23)).alloc (.cells #[.int .i64 H, .int .i64 V, .int .i64 C] 23) = w1 := ⟨_, rfl⟩
  rw [hw1] at S0 ⊢
  clear hw1
  obtain ⟨-, -, -, -, -, -, c3, f3, z3, -⟩ := S0.out.rules
  go_wp2
  have Ho0 : Hid (Own .i8 41 w1 W.heap.size (.slice none 0 0) []) := own_none _ _ _ _
  clear c3 f3 z3
  go_loopw [11, 51] (fun v i wr => ∃ (y : Nat) (v1 : Value), v1 = v ∧ y ≤ n ∧ i = .int .i64 y ∧ Own .i8 41 wr W.heap.size v (eaL k sm ss um us z lo hi xs ys y) ∧ St W wr [(W.heap.size + 1 + 1, #[.int .i64 H, .int .i64 V, .int .i64 C], 23), (W.heap.size + 1, #[.int .i64 h, .int .i64 w, .int .i64 c], 23), (W.heap.size, #[.int .i64 k, .int .i64 a, .int .i64 b, .int .i64 m, .int .i64 kh, .int .i64 kw, .int .i64 sh, .int .i64 sw, .int .i64 tp, .int .i64 lf, .int .i64 bt, .int .i64 rt, .slice wa lw wc, .slice ba lb bc, .int .i64 sm, .int .i64 ss, .int .i64 um, .int .i64 us, .int .i64 z, .int .i64 p, .int .i64 lo, .int .i64 hi], 49)]) (fun _ i _ => n - (intOf i).toNat)
  case atStart => exact ⟨0, _, rfl, Nat.zero_le _, rfl, by simpa [eaL] using Ho0.out, S0.out⟩
  case round =>
    obtain ⟨y, v1, rfl, hy, rfl, hO, sr⟩ := hrel
    clear Ho0 S0
    have HO : Hid (Own .i8 41 wr W.heap.size v1 (eaL k sm ss um us z lo hi xs ys y)) := hO
    have SR : Hid (St W wr [(W.heap.size + 1 + 1, #[.int .i64 H, .int .i64 V, .int .i64 C], 23), (W.heap.size + 1, #[.int .i64 h, .int .i64 w, .int .i64 c], 23), (W.heap.size, #[.int .i64 k, .int .i64 a, .int .i64 b, .int .i64 m, .int .i64 kh, .int .i64 kw, .int .i64 sh, .int .i64 sw, .int .i64 tp, .int .i64 lf, .int .i64 bt, .int .i64 rt, .slice wa lw wc, .slice ba lb bc, .int .i64 sm, .int .i64 ss, .int .i64 um, .int .i64 us, .int .i64 z, .int .i64 p, .int .i64 lo, .int .i64 hi], 49)]) := sr
    clear hO sr
    by_cases hlt : y < n
    · obtain ⟨xa, u, rfl, hu, hu8, hz, -⟩ := HX.out.at hlt
      obtain ⟨xb, v, rfl, hv, hv8, hz', -⟩ := HY.out.at hlt
      have HH : Hid (∀ W', _) := fun W' => HEa.out W' u v (wf_i8 hu8) (wf_i8 hv8)
      have HFF := HF.out y u v hz hz'
      have h8 := H8.out u v
      obtain ⟨F, hFe⟩ : ∃ F, eaV k sm ss um us z lo hi u v = F := ⟨_, rfl⟩
      rw [hFe] at HH HFF h8
      have HFS : Hid (eaL k sm ss um us z lo hi xs ys (y + 1) = eaL k sm ss um us z lo hi xs ys y ++ [F]) := HFF
      have H8F : Hid (I8 F) := h8
      have HU : Hid (W.cell? (xa.add y) = some (.int .i8 u)) := hu
      have HV : Hid (W.cell? (xb.add y) = some (.int .i8 v)) := hv
      clear hz hz' hu8 hv8 hFe HFF h8 hu hv
      go_wp2
      refine regionC (fun w' => w'.heap[W.heap.size]? = some (.cells #[.int .i64 k, .int .i64 a, .int .i64 b, .int .i64 m, .int .i64 kh, .int .i64 kw, .int .i64 sh, .int .i64 sw, .int .i64 tp, .int .i64 lf, .int .i64 bt, .int .i64 rt, .slice wa lw wc, .slice ba lb bc, .int .i64 sm, .int .i64 ss, .int .i64 um, .int .i64 us, .int .i64 z, .int .i64 p, .int .i64 lo, .int .i64 hi] 49 (0, 0)) ∧ w'.cell? (xa.add y) = some (.int .i8 u) ∧ w'.cell? (xb.add y) = some (.int .i8 v)) (by kernel_rfl) ?_
      obtain ⟨wd, hwd⟩ : ∃ wd, wr.drew = wd := ⟨_, rfl⟩
      have HC : Hid (∀ w', St W w' [(W.heap.size + 1 + 1, #[.int .i64 H, .int .i64 V, .int .i64 C], 23), (W.heap.size + 1, #[.int .i64 h, .int .i64 w, .int .i64 c], 23), (W.heap.size, #[.int .i64 k, .int .i64 a, .int .i64 b, .int .i64 m, .int .i64 kh, .int .i64 kw, .int .i64 sh, .int .i64 sw, .int .i64 tp, .int .i64 lf, .int .i64 bt, .int .i64 rt, .slice wa lw wc, .slice ba lb bc, .int .i64 sm, .int .i64 ss, .int .i64 um, .int .i64 us, .int .i64 z, .int .i64 p, .int .i64 lo, .int .i64 hi], 49)] → w'.heap[W.heap.size]? = some (.cells #[.int .i64 k, .int .i64 a, .int .i64 b, .int .i64 m, .int .i64 kh, .int .i64 kw, .int .i64 sh, .int .i64 sw, .int .i64 tp, .int .i64 lf, .int .i64 bt, .int .i64 rt, .slice wa lw wc, .slice ba lb bc, .int .i64 sm, .int .i64 ss, .int .i64 um, .int .i64 us, .int .i64 z, .int .i64 p, .int .i64 lo, .int .i64 hi] 49 (0, 0)) ∧ w'.cell? (xa.add y) = some (.int .i8 u) ∧ w'.cell? (xb.add y) = some (.int .i8 v)) := fun w' s => ⟨s.h3, (s.below.cell (World.block_lt_of_cell? W _ HU.out)).trans HU.out, (s.below.cell (World.block_lt_of_cell? W _ HV.out)).trans HV.out⟩
      have HD : Hid (Below wr.heap.size wr wd) := by unfold Hid; rw [← hwd]; exact (Below.refl _ _).drew
      rw [hwd]
      clear hwd
      refine takeC 0 (v := v1) rfl rfl (by kernel_rfl) (by kernel_rfl) (by kernel_rfl) (fun _ _ _ h => h) (fun _ => rfl) rfl (fun w' hw' => by go_simp) ?_
      refine takeC 1 (v := .agg #[.int .i64 k, .int .i64 a, .int .i64 b, .int .i64 m, .int .i64 kh, .int .i64 kw, .int .i64 sh, .int .i64 sw, .int .i64 tp, .int .i64 lf, .int .i64 bt, .int .i64 rt, .slice wa lw wc, .slice ba lb bc, .int .i64 sm, .int .i64 ss, .int .i64 um, .int .i64 us, .int .i64 z, .int .i64 p, .int .i64 lo, .int .i64 hi]) rfl rfl (by kernel_rfl) (by kernel_rfl) (by kernel_rfl) (fun _ _ _ h => h) (fun _ => rfl) rfl (fun w' hw' => run_la 49 (.tmp 5) rfl ⟨W.heap.size, 0, none⟩ (by kernel_rfl) [.int .i64 k, .int .i64 a, .int .i64 b, .int .i64 m, .int .i64 kh, .int .i64 kw, .int .i64 sh, .int .i64 sw, .int .i64 tp, .int .i64 lf, .int .i64 bt, .int .i64 rt, .slice wa lw wc, .slice ba lb bc, .int .i64 sm, .int .i64 ss, .int .i64 um, .int .i64 us, .int .i64 z, .int .i64 p, .int .i64 lo, .int .i64 hi] _ (lcells hw'.1 (fget [.int .i64 k, .int .i64 a, .int .i64 b, .int .i64 m, .int .i64 kh, .int .i64 kw, .int .i64 sh, .int .i64 sw, .int .i64 tp, .int .i64 lf, .int .i64 bt, .int .i64 rt, .slice wa lw wc, .slice ba lb bc, .int .i64 sm, .int .i64 ss, .int .i64 um, .int .i64 us, .int .i64 z, .int .i64 p, .int .i64 lo, .int .i64 hi] [])) Tryz.underlying49 rfl (by kernel_rfl)) ?_
      refine takeC 2 (v := .slice (some xa) n cap) rfl rfl (by kernel_rfl) (by kernel_rfl) (by kernel_rfl) (fun _ _ _ h => h) (fun _ => rfl) rfl (fun w' hw' => by go_simp) ?_
      refine takeC 3 (v := .int .i64 (y : Int)) rfl rfl (by kernel_rfl) (by kernel_rfl) (by kernel_rfl) (fun _ _ _ h => h) (fun _ => rfl) rfl (fun w' hw' => by go_simp) ?_
      refine takeC 4 (v := .pointer (some (xa.add y))) rfl rfl (by kernel_rfl) (by kernel_rfl) (by kernel_rfl) (fun _ _ _ h => h) (fun _ => rfl) rfl (fun w' hw' => by go_simp) ?_
      refine takeC 5 (v := .int .i8 u) rfl rfl (by kernel_rfl) (by kernel_rfl) (by kernel_rfl) (fun _ _ _ h => h) (fun _ => rfl) rfl (fun w' hw' => by have hc := hw'.2.1; go_simp) ?_
      refine takeC 6 (v := .slice (some xb) n capb) rfl rfl (by kernel_rfl) (by kernel_rfl) (by kernel_rfl) (fun _ _ _ h => h) (fun _ => rfl) rfl (fun w' hw' => by go_simp) ?_
      refine takeC 7 (v := .int .i64 (y : Int)) rfl rfl (by kernel_rfl) (by kernel_rfl) (by kernel_rfl) (fun _ _ _ h => h) (fun _ => rfl) rfl (fun w' hw' => by go_simp) ?_
      refine takeC 8 (v := .pointer (some (xb.add y))) rfl rfl (by kernel_rfl) (by kernel_rfl) (by kernel_rfl) (fun _ _ _ h => h) (fun _ => rfl) rfl (fun w' hw' => by go_simp) ?_
      refine takeC 9 (v := .int .i8 v) rfl rfl (by kernel_rfl) (by kernel_rfl) (by kernel_rfl) (fun _ _ _ h => h) (fun _ => rfl) rfl (fun w' hw' => by have hc := hw'.2.2; go_simp) ?_
      refine stepK 10 (HC.out _ (SR.out.call HD.out)) (by kernel_rfl) rfl rfl 31 #[.agg #[.int .i64 k, .int .i64 a, .int .i64 b, .int .i64 m, .int .i64 kh, .int .i64 kw, .int .i64 sh, .int .i64 sw, .int .i64 tp, .int .i64 lf, .int .i64 bt, .int .i64 rt, .slice wa lw wc, .slice ba lb bc, .int .i64 sm, .int .i64 ss, .int .i64 um, .int .i64 us, .int .i64 z, .int .i64 p, .int .i64 lo, .int .i64 hi], .int .i8 u, .int .i8 v] (by kernel_rfl) (HH.out wd) ?_
      rintro e w5 ⟨rfl, hb5⟩
      have HB5 : Hid (Below wr.heap.size wr w5) := btr HD.out hb5
      clear hb5
      refine ⟨_, rfl, ?_⟩
      refine stepR 11 (HC.out _ (SR.out.call HB5.out)) (by kernel_rfl) rfl rfl (.slice (some ⟨w5.heap.size, 0, none⟩) 1 1) (w5.alloc (.cells #[.int .i8 F] 41)) (by kernel_rfl) ?_
      have HB6 : Hid (Below wr.heap.size wr (w5.alloc (.cells #[.int .i8 F] 41))) := btr HB5.out (bal _ _)
      have hO6 : Hid (Own .i8 41 (w5.alloc (.cells #[.int .i8 F] 41)) W.heap.size v1 (eaL k sm ss um us z lo hi xs ys y)) := HO.out.below HB6.out
      have hR6 : Hid (IRow .i8 (w5.alloc (.cells #[.int .i8 F] 41)) (some ⟨w5.heap.size, 0, none⟩) 1 1 [F]) := row_one .i8 41 w5 F (mk_i8 H8F.out)
      have S6 : Hid (St W (w5.alloc (.cells #[.int .i8 F] 41)) [(W.heap.size + 1 + 1, #[.int .i64 H, .int .i64 V, .int .i64 C], 23), (W.heap.size + 1, #[.int .i64 h, .int .i64 w, .int .i64 c], 23), (W.heap.size, #[.int .i64 k, .int .i64 a, .int .i64 b, .int .i64 m, .int .i64 kh, .int .i64 kw, .int .i64 sh, .int .i64 sw, .int .i64 tp, .int .i64 lf, .int .i64 bt, .int .i64 rt, .slice wa lw wc, .slice ba lb bc, .int .i64 sm, .int .i64 ss, .int .i64 um, .int .i64 us, .int .i64 z, .int .i64 p, .int .i64 lo, .int .i64 hi], 49)]) := SR.out.call HB6.out
      refine stepO kt_i8 12 (HC.out _ S6.out) (by kernel_rfl) rfl rfl (.tmp 54) (.tmp 65) rfl W.heap.size v1 _ [F] (by kernel_rfl) hO6.out ⟨w5.heap.size, 0, none⟩ 1 1 (by kernel_rfl) hR6.out (by rw [eaL_len]; simp; omega) S6.out.size ?_
      intro v7 w7 own7 gr7
      have S7 : Hid (St W w7 [(W.heap.size + 1 + 1, #[.int .i64 H, .int .i64 V, .int .i64 C], 23), (W.heap.size + 1, #[.int .i64 h, .int .i64 w, .int .i64 c], 23), (W.heap.size, #[.int .i64 k, .int .i64 a, .int .i64 b, .int .i64 m, .int .i64 kh, .int .i64 kw, .int .i64 sh, .int .i64 sw, .int .i64 tp, .int .i64 lf, .int .i64 bt, .int .i64 rt, .slice wa lw wc, .slice ba lb bc, .int .i64 sm, .int .i64 ss, .int .i64 um, .int .i64 us, .int .i64 z, .int .i64 p, .int .i64 lo, .int .i64 hi], 49)]) := S6.out.grow hO6.out gr7 (Nat.le_refl _) (by simp)
      have O7 : Hid (Own .i8 41 w7 W.heap.size v7 (eaL k sm ss um us z lo hi xs ys (y + 1))) := by rw [HFS.out]; exact own7
      clear own7 gr7
      refine stepR 13 (HC.out _ S7.out) (by kernel_rfl) rfl rfl v7 w7 (by kernel_rfl) ?_
      refine doneC (HC.out _ S7.out) (by kernel_rfl) ?_ _
      clear HC
      go_wp2
      go_roundw
      case rel => exact ⟨y + 1, _, rfl, by omega, by go_num, O7.out, S7.out⟩
      case measure => simp [intOf]; omega
    · obtain rfl : y = n := by omega
      go_wp2
      go_ret
      exact ⟨⟨_, rfl, HO.out⟩, SR.out.below⟩
/-! ### Whatever the kind -/
theorem list_i {f : Nat → Int} {xs : List Int} {g : Int → Int} {n : Nat} (hn : xs.length = n) (h : ∀ i, i < n → f i = g (xs.getD i 0)) : (List.range n).map f = xs.map g := by
  apply List.ext_getElem?
  intro i
  simp only [List.getElem?_map]
  by_cases q : i < n
  · rw [List.getElem?_range q, List.getElem?_eq_getElem (show i < xs.length by omega)]
    simp only [Option.map_some]
    rw [h i q, List.getD_eq_getElem?_getD, List.getElem?_eq_getElem (show i < xs.length by omega)]; rfl
  · rw [List.getElem?_eq_none (by simp; omega), List.getElem?_eq_none (by omega)]; rfl
theorem make_any (k a b m kh kw sh sw tp lf bt rt : Int) (wa : Option Addr) (lw wc : Nat) (ba : Option Addr) (lb bc : Nat) (sm ss um us z p lo hi h w c H V C : Int) (W : World) (s : Opd k b m kh kw sh sw tp lf bt rt lw lb sm ss um us z p lo hi h w c H V C) (zs bs : List Int) (hZ : IRow .i16 W wa lw wc zs) (hB : IRow .i32 W ba lb bc bs) (ad : Option Addr) (n cap : Nat) (xs : List Int) (hX : IRow .i8 W ad n cap xs) (hn : (n : Int) = h * w * c) (bd : Option Addr) (capb : Nat) (ys : List Int) (hY : IRow .i8 W bd n capb ys) (y9 : List Int) (hy9 : k = 6 → y9 = ys) :
    Calls Tryz.prog 14 #[.agg #[.int .i64 k, .int .i64 a, .int .i64 b, .int .i64 m, .int .i64 kh, .int .i64 kw, .int .i64 sh, .int .i64 sw, .int .i64 tp, .int .i64 lf, .int .i64 bt, .int .i64 rt, .slice wa lw wc, .slice ba lb bc, .int .i64 sm, .int .i64 ss, .int .i64 um, .int .i64 us, .int .i64 z, .int .i64 p, .int .i64 lo, .int .i64 hi], .agg #[.int .i64 h, .int .i64 w, .int .i64 c], .agg #[.int .i64 H, .int .i64 V, .int .i64 C], .slice ad n cap, .slice bd n capb] W fun e w' => (∃ v, e = .returned v ∧ Own .i8 41 w' W.heap.size v (teL k kh kw sh sw tp lf bt rt sm ss um us z p lo hi h w c H V C zs bs xs y9)) ∧ Below W.heap.size W w' := by
  have hk := s.hk
  have hp8 : I8 p := by have := s.rz; unfold rzB vlB at this; simp at this; exact ⟨this.2.1, this.2.2⟩
  have hBb := (vS_bd s.hB).2
  have hAb := (vS_bd s.hA).2
  have hxl := hX.1
  have hyl := hY.1
  by_cases k4 : k ≤ 4
  · have hl : (suL k kh kw sh sw tp lf bt rt h w c C p zs bs xs (H * V * C).toNat).length ≤ 16384 := by rw [suL_len]; omega
    have := make_s k a b m kh kw sh sw tp lf bt rt wa lw wc ba lb bc sm ss um us z p lo hi h w c H V C W (s.si k4) ad n cap bd n capb (suL k kh kw sh sw tp lf bt rt h w c C p zs bs xs (H * V * C).toNat) hl (suL_bd (s.si k4) hZ.2.2.2.1 hB.2.2.2.1 hp8 hX.i8 _) (fun w' hb => rsums_any k a b m kh kw sh sw tp lf bt rt wa lw wc ba lb bc sm ss um us z p lo hi h w c H V C w' (s.si k4) zs bs (hZ.below hb) (hB.below hb) ad n cap xs (hX.below hb) hn hp8)
    have e : (suL k kh kw sh sw tp lf bt rt h w c C p zs bs xs (H * V * C).toNat).map (fun t => hoV k sm ss z lo hi t (stR k kh kw h w c)) = teL k kh kw sh sw tp lf bt rt sm ss um us z p lo hi h w c H V C zs bs xs y9 := by
      unfold teL vaL fiL
      by_cases k3 : k ≤ 3
      · rw [if_pos k3]
        unfold apL
        rw [List.map_map]
        refine List.map_congr_left fun t _ => ?_
        unfold hoV
        rw [if_neg (by omega)]; rfl
      · obtain rfl : k = 4 := by omega
        rw [if_neg (by decide), if_pos rfl]
        unfold meL
        rw [List.map_map]
        refine List.map_congr_left fun t _ => ?_
        have hoz := of_decide_eq_true s.oz
        have hz0 := (hoz.2.2.2.1 (.inl rfl)).2.2
        unfold hoV
        rw [if_pos rfl, hz0]; rfl
    rw [e] at this
    exact this
  · by_cases k5 : k = 5
    · subst k5
      have hou := s.ou (by decide)
      have hoz := of_decide_eq_true s.oz
      obtain ⟨rfl, rfl, rfl, rfl⟩ := hoz.2.2.2.2.2.2 (.inr rfl)
      have hz0 := (hoz.2.2.2.1 (.inr (.inl rfl))).2.2
      rcases ouR_cases h w c kh kw sh sw 0 0 0 0 with ⟨e, he, h2⟩ | ⟨rr, qq, he, hf⟩
      · rw [he] at hou
        simp only [Prod.mk.injEq] at hou
        omega
      · have hou' := hou
        rw [he] at hou
        simp only [Prod.mk.injEq, and_true] at hou
        obtain ⟨rfl, rfl⟩ := hou
        obtain ⟨-, ⟨i1, i2, i3, i4, -⟩, -, -, g1, g2⟩ := hf
        have := make_g 5 a b m kh kw sh sw 0 0 0 0 wa lw wc ba lb bc sm ss um us z p lo hi h w c rr qq C W rfl ad n cap bd n capb _ (fun w' hb => rgreat_any a b m kh kw sh sw wa lw wc ba lb bc sm ss um us z p lo hi h w c rr qq C w' ad n cap xs (hX.below hb) hn s.hA s.hB hou' i1 i2 i3 i4 (by omega) (by omega) (s.c3 (by decide)))
        have e : fiL (grL kh kw sh sw w c qq C xs (rr * qq * C).toNat) 0 lo hi = teL 5 kh kw sh sw 0 0 0 0 sm ss um us z p lo hi h w c rr qq C zs bs xs y9 := by
          unfold teL vaL
          rw [if_neg (by decide), if_neg (by decide), if_pos rfl, hz0]
        rw [e] at this
        exact this
    · have := make_e k a b m kh kw sh sw tp lf bt rt wa lw wc ba lb bc sm ss um us z p lo hi h w c H V C W (by omega) ad n cap xs hX (by omega) bd capb ys hY
      have e : eaL k sm ss um us z lo hi xs ys n = teL k kh kw sh sw tp lf bt rt sm ss um us z p lo hi h w c H V C zs bs xs y9 := by
        unfold teL vaL
        rw [if_neg (by omega), if_neg (by omega), if_neg k5]
        by_cases k6 : k = 6
        · rw [if_pos k6, hy9 k6]
          unfold eaL fiL adL apL
          rw [List.map_map, List.length_map, hxl]
          refine List.map_congr_left fun i hi => ?_
          have hi' : i < n := by simpa using hi
          unfold eaV
          rw [if_pos k6]
          simp [List.getD, show i < xs.length by omega, show i < ys.length by omega]
        · rw [if_neg k6]
          unfold eaL
          by_cases k7 : k = 7
          · rw [if_pos k7]
            unfold fiL apL
            rw [List.map_map]
            refine list_i hxl fun i hi => ?_
            unfold eaV
            rw [if_neg k6, if_neg (by omega)]; rfl
          · rw [if_neg k7]
            unfold fiL
            refine list_i hxl fun i hi => ?_
            unfold eaV
            rw [if_neg k6, if_pos (by omega)]
      rw [e] at this
      exact this
end Go.Proofs.YtmcdpbnpnifdfaaGreat

/- The document's Tensors of layer 11. -/
namespace Go.Proofs.YtmcdpbnpnifdfaaGreat
open Go.ChangeShapes Go.WideShapes Go.ChangeAt Go.RowKit
set_option linter.unusedVariables false
/-! ### 'append' of a list to a row of lists, whether there is room or not -/
theorem ORs.lg {w : World} {base : Nat} {v : Value} {ss : List Value} (h : ORs w base v ss) (h0 : 0 < ss.length) : ∃ g cap, v = .slice (some ⟨g, 0, none⟩) ss.length cap ∧ base ≤ g ∧ LG w g cap ss ∧ cap ≤ maxLen := by
  rcases h.2 with ⟨-, q⟩ | ⟨g, cap, cur, rfl, h2, h3, h4, h5, h6, h7⟩
  · omega
  · exact ⟨g, cap, rfl, h2, ⟨cur, h3, by omega, h4, by rw [Nat.mul_one] at h7; exact h7⟩, h5⟩
theorem LG.ors {w : World} {base g cap : Nat} {ss : List Value} (h : LG w g cap ss) (hb : base ≤ g) (hc : cap ≤ maxLen) : ORs w base (.slice (some ⟨g, 0, none⟩) ss.length cap) ss := by
  obtain ⟨cur, h1, h2, h3, h4⟩ := h
  exact ⟨by simp, .inr ⟨g, cap, cur, rfl, hb, h1, h3, hc, by omega, by rw [Nat.mul_one]; exact h4⟩⟩
theorem ors_base {w : World} {b c : Nat} {v : Value} {ss : List Value} (h : ORs w b v ss) (k : c ≤ b) : ORs w c v ss := by
  refine ⟨h.1, ?_⟩
  rcases h.2 with h | ⟨g, cap, cur, h1, h2, h3⟩
  · exact .inl h
  · exact .inr ⟨g, cap, cur, h1, Nat.le_trans k h2, h3⟩
def Grw (w w' : World) (g n : Nat) (u : Value) : Prop := w' = w.setCell ⟨g, n, none⟩ u ∨ Below w.heap.size w w'
theorem wp_apG {w : World} {o : Oper} {a : Act} {K : Act → World → Prop} {Q : Exit → Act → World → Prop} (hg : o.guard = none) (s x : Operand) (hop : o.op = Op.call { callee := Callee.builtin Builtin.append, args := #[s, x], argTypes := #[29, 29] })
    (base g cap : Nat) (ss : List Value) (n : Nat) (hn : ss.length = n) (hbg : base ≤ g) (hcm : cap ≤ maxLen) (hs : a.eval s = .slice (some ⟨g, 0, none⟩) n cap) (b : Nat) (u : Value) (hx : a.eval x = .slice (some ⟨b, 0, none⟩) 1 1) (hb : w.heap[b]? = some (.cells #[u] 27 (0, 0))) (h1 : u.oneCell' = true)
    (hL : LG w g cap ss) (hsm : n ≤ 1000) (hbw : base ≤ w.heap.size) (h : ∀ v' w', ORs w' base v' (ss ++ [u]) → Grw w w' g n u → K (a.put o.dst v') w') : o.wp Tryz.prog a w K Q := by
  by_cases hroom : n < cap
  · refine wp_apR hg s x hop g cap ss n hn hs b u hx hb h1 hL hroom (h _ _ ?_ (.inl rfl))
    have := (hL.add (by omega) u).ors hbg hcm
    rw [List.length_append, hn] at this
    exact this
  · obtain ⟨i0, hi0, hz0, hz1, hz2⟩ := info_parts Tryz.infoTT
    have := step_append_grows (P := Tryz.prog) (ops := #[]) (o := o) (a := a) (w := w) (K := K) (Q := Q) (E := False) hg s x 29 hop 27 i0 (.slice none 0 0) 1 24 Tryz.underlying29 hi0 hz0 hz1 hz2 rfl (by omega) (some ⟨g, 0, none⟩) n cap ss hs (fun q => by cases q) (by omega)
      (fun b' hb' j v hj => by
        cases hb'
        have hj' : j < ss.length := (List.getElem?_eq_some_iff.1 hj).1
        rw [Addr.add_lit, Nat.zero_add, hL.at hj', List.getD_eq_getElem?_getD, hj]; rfl) ⟨b, 0, none⟩ 1 1 [u] hx rfl
      (fun j v hj => by
        have hj0 : j = 0 := by have := (List.getElem?_eq_some_iff.1 hj).1; simp at this; exact this
        subst hj0
        rw [Addr.add_lit, (cells_at hb).1]
        simpa using hj) (fun v hv => by simp at hv; rw [hv]; exact h1) (by omega) (by unfold maxLen; omega) (by omega)
      (fun v' w' q1 q2 => h v' w' (ors_base (b := w.heap.size) (by unfold ORs; rw [List.length_append, hn]; exact q1) hbw) (.inr ((Below.refl _ _).grown q2 (Nat.le_refl _) (fun _ e => by cases e))))
    rwa [if_pos (by simp [Region.wanted, hg])] at this
theorem stepG {ops : Array Oper} {md : Region.Mode} {C : World → Prop} {Q : Exit → Act → World → Prop} (i : Nat) {o : Oper} {fuel : Nat} {listed : Array Bool} {a : Act} {w : World} (hC : C w) (hr : Region.ready md ops listed = [i]) (ho : ops[i]? = some o) (hg : o.guard = none)
    (s x : Operand) (hop : o.op = Op.call { callee := Callee.builtin Builtin.append, args := #[s, x], argTypes := #[29, 29] })
    (base g cap : Nat) (ss : List Value) (n : Nat) (hn : ss.length = n) (hbg : base ≤ g) (hcm : cap ≤ maxLen) (hs : a.eval s = .slice (some ⟨g, 0, none⟩) n cap) (b : Nat) (u : Value) (hx : a.eval x = .slice (some ⟨b, 0, none⟩) 1 1) (hb : w.heap[b]? = some (.cells #[u] 27 (0, 0))) (h1 : u.oneCell' = true)
    (hL : LG w g cap ss) (hsm : n ≤ 1000) (hbw : base ≤ w.heap.size) (h : ∀ v' w', ORs w' base v' (ss ++ [u]) → Grw w w' g n u → wpAnyC Fence.wide 3 Tryz.prog md ops C Q fuel (listed.setIfInBounds i true) (a.put o.dst v') w') : wpAnyC Fence.wide 3 Tryz.prog md ops C Q (fuel + 1) listed a w :=
  stepW i hC hr ho hg fun K hK => wp_apG hg s x hop base g cap ss n hn hbg hcm hs b u hx hb h1 hL hsm hbw fun v' w' q1 q2 => hK _ _ (h v' w' q1 q2)
theorem Grw.st {w0 w w' : World} {g n cap : Nat} {u : Value} {ss : List Value} {l : List (Nat × Array Value × TypeId)} (q : Grw w w' g n u) (h : St w0 w l) (hL : LG w g cap ss) (hb : w0.heap.size ≤ g) (hT : ∀ x ∈ l, x.2.2 ≠ 27) : St w0 w' l := by
  rcases q with rfl | q
  · exact h.setL hL hb hT
  · exact h.call q
theorem Grw.ells {w w' : World} {g n cap base : Nat} {u : Value} {ss : List Value} {rs : List Value} {Ts : List (List Int)} (q : Grw w w' g n u) (h : Ells w base rs Ts) (hL : LG w g cap ss) : Ells w' base rs Ts := by
  rcases q with rfl | q
  · exact h.grown (grown_set _ g n u) (fun b hb => by cases hb; exact hL.ne8)
  · exact h.below q
theorem Grw.cell {w w' : World} {g n : Nat} {u v : Value} {x : Addr} (q : Grw w w' g n u) (h : w.cell? x = some v) (hx : x ≠ ⟨g, n, none⟩) : w'.cell? x = some v := by
  rcases q with rfl | q
  · rw [World.cell?_setCell_other _ _ _ _ (fun e => hx e.symm)]; exact h
  · exact (q.cell (World.block_lt_of_cell? w _ h)).trans h
theorem Grw.heap {w w' : World} {g n cap : Nat} {u : Value} {ss : List Value} {b : Nat} {c : Array Value} {T : TypeId} (q : Grw w w' g n u) (hL : LG w g cap ss) (h : w.heap[b]? = some (.cells c T (0, 0))) (hT : T ≠ 27) : w'.heap[b]? = some (.cells c T (0, 0)) := by
  rcases q with rfl | q
  · rw [Below.heap_setCell _ _ _ _ (fun e => ?_)]
    · exact h
    · obtain ⟨cur, h1, -⟩ := hL
      rw [e, h1] at h
      simp only [Option.some.injEq, Obj.cells.injEq] at h
      exact hT h.2.1.symm
  · exact (q.block b (lt_of_heap h)).trans h
/-! ### The walks -/
set_option maxHeartbeats 2000000 in
theorem rtensors_bad (h w c lo hi ot : Int) (oa : Option Addr) (on oc : Nat) (O : Nat → Nat → Int) (Z B : Nat → List Int) (W : World) (hL : LRow W oa on oc O Z B) (ad : Option Addr) (n cap : Nat) (xs : List Int) (hX : IRow .i8 W ad n cap xs) (hon : on ≤ 1000000000000) (Re Ra Rw : Int) (RL : List (Int × Int × Int)) (hR : gtR O h w c lo hi ot on = (Re, Ra, RL, Rw)) (he : Re ≠ 0) :
    Calls Tryz.prog 6 #[.agg #[.int .i64 h, .int .i64 w, .int .i64 c, .int .i64 lo, .int .i64 hi, .slice oa on oc, .int .i64 ot], .slice ad n cap] W fun e w' => e = .returned (.tuple #[.slice none 0 0, .agg #[.int .i64 Re, .int .i64 Ra, .int .i64 0]]) ∧ Below W.heap.size W w' := by
  have hS : Hid (∀ W', Below W.heap.size W W' → _) := fun W' hb => look_any h w c lo hi ot oa on oc O Z B W' (hL.below hb) hon
  rw [hR] at hS
  simp only at hS
  have he' : (Re == 0) = false := by simp [he]
  have s0 := ((St.start W).new (c := #[.int .i64 h, .int .i64 w, .int .i64 c, .int .i64 lo, .int .i64 hi, .slice oa on oc, .int .i64 ot]) (t := 26)).new (c := #[.int .i64 0, .int .i64 0, .int .i64 0]) (t := 32)
  simp only [World.size_alloc] at s0
  clear hL hX hR
  go_enter Tryz.func6, Tryz.ntmps6
  go_wp2_with fail
  refine Calls.mono (hS.out _ s0.below) ?_
  rintro e w1 ⟨v, rfl, hSh, hb⟩
  obtain ⟨va, vc, rfl⟩ := hSh.slice
  have s1 := (s0.call hb).new (c := #[.int .i64 Re, .int .i64 Ra, .int .i64 0]) (t := 32)
  obtain ⟨c1, f1, z1, c2, f2, z2, -⟩ := (s0.call hb).rules
  clear hb hSh hS s0
  go_upto_region 2 with fail
  obtain ⟨w2, hw2⟩ : ∃ w2, w1.alloc (.cells #[.int .i64 Re, .int .i64 Ra, .int .i64 0] 32) = w2 := ⟨_, rfl⟩
  rw [hw2] at s1 ⊢
  clear hw2 c1 f1 z1 c2 f2 z2
  obtain ⟨c1, f1, z1, c2, f2, z2, -⟩ := s1.rules
  have S1 : Hid (St W w2 _) := s1
  clear s1
  go_wp2
  go_region_law (fail)
  all_goals
    go_wp2
    exact bodyPost_ret (v := .tuple #[.slice none 0 0, .agg #[.int .i64 Re, .int .i64 Ra, .int .i64 0]]) (by simp [results, Tryz.results6, go_sem, *]) rfl ⟨rfl, by first | exact set3b S1.out.below (by omega) | exact set3b S1.out.drew.below (by omega)⟩
set_option maxHeartbeats 2000000 in
theorem rtensors_in (h w c lo hi ot : Int) (oa : Option Addr) (on oc : Nat) (O : Nat → Nat → Int) (Z B : Nat → List Int) (W : World) (hL : LRow W oa on oc O Z B) (ad : Option Addr) (n cap : Nat) (xs : List Int) (hX : IRow .i8 W ad n cap xs) (hon : on ≤ 1000000000000) (Rw : Int) (RL : List (Int × Int × Int)) (hR : gtR O h w c lo hi ot on = (0, 0, RL, Rw)) (hin : inB h w c lo hi xs = false) :
    Calls Tryz.prog 6 #[.agg #[.int .i64 h, .int .i64 w, .int .i64 c, .int .i64 lo, .int .i64 hi, .slice oa on oc, .int .i64 ot], .slice ad n cap] W fun e w' => e = .returned (.tuple #[.slice none 0 0, .agg #[.int .i64 220, .int .i64 0, .int .i64 0]]) ∧ Below W.heap.size W w' := by
  have hS : Hid (∀ W', Below W.heap.size W W' → _) := fun W' hb => look_any h w c lo hi ot oa on oc O Z B W' (hL.below hb) hon
  rw [hR] at hS
  simp only at hS
  have hvs : vS h w c = true := (ouE_0 (gtR_st hR).1).1
  have hI : Hid (∀ W', Below W.heap.size W W' → _) := fun W' hb => rinput_any h w c lo hi ot oa on oc ad n cap xs W' (hX.below hb) hvs
  rw [hin] at hI
  have s0 := ((St.start W).new (c := #[.int .i64 h, .int .i64 w, .int .i64 c, .int .i64 lo, .int .i64 hi, .slice oa on oc, .int .i64 ot]) (t := 26)).new (c := #[.int .i64 0, .int .i64 0, .int .i64 0]) (t := 32)
  simp only [World.size_alloc] at s0
  clear hL hX hR hvs
  go_enter Tryz.func6, Tryz.ntmps6
  go_wp2_with fail
  refine Calls.mono (hS.out _ s0.below) ?_
  rintro e w1 ⟨v, rfl, hSh, hb⟩
  obtain ⟨va, vc, rfl⟩ := hSh.slice
  have s1 := (s0.call hb).new (c := #[.int .i64 0, .int .i64 0, .int .i64 0]) (t := 32)
  obtain ⟨c1, f1, z1, c2, f2, z2, -⟩ := (s0.call hb).rules
  clear hb hSh hS s0
  go_upto_region 2 with fail
  obtain ⟨w2, hw2⟩ : ∃ w2, w1.alloc (.cells #[.int .i64 0, .int .i64 0, .int .i64 0] 32) = w2 := ⟨_, rfl⟩
  rw [hw2] at s1 ⊢
  clear hw2 c1 f1 z1 c2 f2 z2
  obtain ⟨c1, f1, z1, c2, f2, z2, c3, f3, z3, -⟩ := s1.rules
  have S1 : Hid (St W w2 _) := s1
  clear s1
  go_wp2_with fail
  refine (hI.out _ S1.out.below).mono ?_
  rintro e w3 ⟨rfl, hb3⟩
  have s3 := S1.out.call hb3
  clear c1 f1 z1 c2 f2 z2 c3 f3 z3
  obtain ⟨c1, f1, z1, c2, f2, z2, -⟩ := s3.rules
  have S3 : Hid (St W w3 _) := s3
  clear s3 hb3 S1
  go_wp2
  exact bodyPost_ret (v := .tuple #[.slice none 0 0, .agg #[.int .i64 220, .int .i64 0, .int .i64 0]]) (by simp [results, Tryz.results6, go_sem, *]) rfl ⟨rfl, set3b S3.out.below (by omega)⟩
set_option maxRecDepth 100000 in
set_option maxHeartbeats 8000000 in
theorem rtensors_ok (h w c lo hi ot : Int) (oa : Option Addr) (on oc : Nat) (O : Nat → Nat → Int) (Z B : Nat → List Int) (W : World) (hL : LRow W oa on oc O Z B) (ad : Option Addr) (n cap : Nat) (xs : List Int) (hX : IRow .i8 W ad n cap xs) (hon : on ≤ 1000000000000) (Rw : Int) (RL : List (Int × Int × Int)) (hR : gtR O h w c lo hi ot on = (0, 0, RL, Rw)) (hin : inB h w c lo hi xs = true) :
    Calls Tryz.prog 6 #[.agg #[.int .i64 h, .int .i64 w, .int .i64 c, .int .i64 lo, .int .i64 hi, .slice oa on oc, .int .i64 ot], .slice ad n cap] W fun e w' => (∃ v, e = .returned (.tuple #[v, .agg #[.int .i64 0, .int .i64 0, .int .i64 0]]) ∧ LLs w' W.heap.size v (tnL O Z B RL xs on)) ∧ Below W.heap.size W w' := by
  obtain ⟨hxn, hxr⟩ := inB_yes hin
  have hS : Hid (∀ W', Below W.heap.size W W' → _) := fun W' hb => look_any h w c lo hi ot oa on oc O Z B W' (hL.below hb) hon
  rw [hR] at hS
  simp only at hS
  obtain ⟨-, hRl, ho64, -, -, -⟩ := gtR_ok hR
  have hvs : vS h w c = true := (ouE_0 (gtR_st hR).1).1
  have hI : Hid (∀ W', Below W.heap.size W W' → _) := fun W' hb => rinput_any h w c lo hi ot oa on oc ad n cap xs W' (hX.below hb) hvs
  rw [hin] at hI
  have s0 := ((St.start W).new (c := #[.int .i64 h, .int .i64 w, .int .i64 c, .int .i64 lo, .int .i64 hi, .slice oa on oc, .int .i64 ot]) (t := 26)).new (c := #[.int .i64 0, .int .i64 0, .int .i64 0]) (t := 32)
  simp only [World.size_alloc] at s0
  have hxl := hX.1
  have p3 := (vS_bd hvs).2
  have hn6 : n ≤ 1000000 := by omega
  have hn1 : 1 ≤ n := by omega
  have HX : Hid (IRow .i8 W ad n cap xs) := hX
  have HXL : Hid (xs.length = n) := hxl
  have HL : Hid (LRow W oa on oc O Z B) := hL
  have HR : Hid (gtR O h w c lo hi ot on = (0, 0, RL, Rw)) := hR
  have HF : Hid (∀ i, i ≤ on → _) := tn_facts (Z := Z) (B := B) hR hxn hX.i8
  have hocm := hL.1
  have hocx := hL.2.1
  unfold maxLen at hocx
  clear hL hX hR hvs hxn hxr hxl p3
  go_enter Tryz.func6, Tryz.ntmps6
  go_wp2_with fail
  refine Calls.mono (hS.out _ s0.below) ?_
  rintro e w1 ⟨v, rfl, hSh, hb⟩
  obtain ⟨gs, caps, curs, rfl, hgb, hgc, hCu, hcaps⟩ := hSh.cu (by rw [hRl]; omega)
  have hgb' : W.heap.size ≤ gs := by simp at hgb; omega
  have hcap2 := hCu.2.1
  rw [hRl] at hcap2 ⊢
  unfold maxLen at hcaps
  have s1 := ((s0.call hb).ad hgc hgb').new (c := #[.int .i64 0, .int .i64 0, .int .i64 0]) (t := 32)
  obtain ⟨c1, f1, z1, c2, f2, z2, -⟩ := (s0.call hb).rules
  have HCu : Hid (Cu curs caps RL) := hCu
  clear hb hSh hS s0 hgc hCu hgb hgb'
  go_upto_region 2 with fail
  obtain ⟨w2, hw2⟩ : ∃ w2, w1.alloc (.cells #[.int .i64 0, .int .i64 0, .int .i64 0] 32) = w2 := ⟨_, rfl⟩
  rw [hw2] at s1 ⊢
  clear hw2 c1 f1 z1 c2 f2 z2
  obtain ⟨bf, hbf⟩ : ∃ bf, w1.heap.size = bf := ⟨_, rfl⟩
  rw [hbf] at s1 ⊢
  clear hbf
  have S1 : Hid (St W w2 ((bf, #[.int .i64 0, .int .i64 0, .int .i64 0], 32) :: (gs, curs, 23) :: (W.heap.size + 1, #[.int .i64 0, .int .i64 0, .int .i64 0], 32) :: (W.heap.size, #[.int .i64 h, .int .i64 w, .int .i64 c, .int .i64 lo, .int .i64 hi, .slice oa on oc, .int .i64 ot], 26) :: [])) := s1
  obtain ⟨c1, f1, z1, -, -, z2, c3, f3, z3, c4, f4, z4, -⟩ := s1.rules
  clear s1
  go_wp2_with fail
  refine (hI.out _ S1.out.below).mono ?_
  rintro e w3 ⟨rfl, hb3⟩
  have S3 : Hid (St W w3 ((bf, #[.int .i64 0, .int .i64 0, .int .i64 0], 32) :: (gs, curs, 23) :: (W.heap.size + 1, #[.int .i64 0, .int .i64 0, .int .i64 0], 32) :: (W.heap.size, #[.int .i64 h, .int .i64 w, .int .i64 c, .int .i64 lo, .int .i64 hi, .slice oa on oc, .int .i64 ot], 26) :: [])) := S1.out.call hb3
  clear c1 f1 z1 z2 c3 f3 z3 c4 f4 z4 hb3 S1 hI
  have own0 : Hid (Own .i8 41 (w3.alloc (.cells #[] 41)) w3.heap.size (.slice (some ⟨w3.heap.size, 0, none⟩) 0 0) []) := own_lit .i8 41 w3 w3.heap.size [] (Wf.nil _) (by unfold maxLen; simp) (Nat.le_refl _)
  go_upto_region 7 with (at_builtin; refine wpList_app kt_i8 rfl (.tmp 28) (.tmp 29) rfl w3.heap.size (.slice (some ⟨w3.heap.size, 0, none⟩) 0 0) [] xs rfl own0.out _ _ _ rfl ((HX.out.below S3.out.below).below (bal _ _)) (by have := HXL.out; simp; omega) (by simp) ?_; intro v4 w4 own4 gr4 nn4; have hb4 : Hid (Below w3.heap.size w3 w4) := own0.out.bel (bal _ _) gr4 (Nat.le_refl _) (by simp); have HO4 : Hid (Own .i8 41 w4 w3.heap.size v4 xs) := own4; obtain ⟨va5, vc5, rfl, -, -⟩ := own4.row; clear own4 gr4 nn4)
  have hE5 : Hid (Ells (w4.alloc (.cells #[.slice va5 xs.length vc5] 27)) W.heap.size [.slice va5 xs.length vc5] (tnL O Z B RL xs 0)) := ((Ells.nil w3 W.heap.size).add hb4.out HO4.out S3.out.size).below (bal _ _)
  have S5 : Hid (St W (w4.alloc (.cells #[.slice va5 xs.length vc5] 27)) ((bf, #[.int .i64 0, .int .i64 0, .int .i64 0], 32) :: (gs, curs, 23) :: (W.heap.size + 1, #[.int .i64 0, .int .i64 0, .int .i64 0], 32) :: (W.heap.size, #[.int .i64 h, .int .i64 w, .int .i64 c, .int .i64 lo, .int .i64 hi, .slice oa on oc, .int .i64 ot], 26) :: [])) := (S3.out.call hb4.out).skip _
  have HO5 : Hid (ORs (w4.alloc (.cells #[.slice va5 xs.length vc5] 27)) W.heap.size (.slice (some ⟨w4.heap.size, 0, none⟩) 1 1) [.slice va5 xs.length vc5]) := ⟨by simp, .inr ⟨w4.heap.size, 1, _, rfl, Nat.le_trans S3.out.size hb4.out.size, heap_alloc_new w4 _, Nat.le_refl _, by unfold maxLen; omega, rfl, rfl⟩⟩
  obtain ⟨w6, hw6⟩ : ∃ w6, w4.alloc (.cells #[.slice va5 xs.length vc5] 27) = w6 := ⟨_, rfl⟩
  obtain ⟨g0, hg0⟩ : ∃ g0, w4.heap.size = g0 := ⟨_, rfl⟩
  rw [hw6] at S5 hE5 HO5 ⊢
  rw [hg0] at HO5 ⊢
  clear hw6 hg0 hb4 HO4 S3 own0
  obtain ⟨-, -, -, -, -, -, -, -, -, c4, f4, z4, -⟩ := S5.out.rules
  go_wp2
  go_loopw [9, 35] (fun v i wr => ∃ (y : Nat) (ss : List Value) (v1 : Value), v1 = v ∧ y ≤ on ∧ i = .int .i64 y ∧ ss.length = y + 1 ∧ ORs wr W.heap.size v ss ∧ Ells wr W.heap.size ss (tnL O Z B RL xs y) ∧ St W wr ((bf, #[.int .i64 0, .int .i64 0, .int .i64 0], 32) :: (gs, curs, 23) :: (W.heap.size + 1, #[.int .i64 0, .int .i64 0, .int .i64 0], 32) :: (W.heap.size, #[.int .i64 h, .int .i64 w, .int .i64 c, .int .i64 lo, .int .i64 hi, .slice oa on oc, .int .i64 ot], 26) :: [])) (fun _ i _ => on - (intOf i).toNat)
  case atStart => exact ⟨0, _, _, rfl, Nat.zero_le _, rfl, rfl, HO5.out, hE5.out, S5.out⟩
  case round =>
    obtain ⟨y, ss, v1, rfl, hy, rfl, hsl, hOR, hEl, sr⟩ := hrel
    clear S5 HO5 hE5 c4 f4 z4
    have HSL : Hid (ss.length = y + 1) := hsl
    have HEl : Hid (Ells wr W.heap.size ss (tnL O Z B RL xs y)) := hEl
    have SR : Hid (St W wr ((bf, #[.int .i64 0, .int .i64 0, .int .i64 0], 32) :: (gs, curs, 23) :: (W.heap.size + 1, #[.int .i64 0, .int .i64 0, .int .i64 0], 32) :: (W.heap.size, #[.int .i64 h, .int .i64 w, .int .i64 c, .int .i64 lo, .int .i64 hi, .slice oa on oc, .int .i64 ot], 26) :: [])) := sr
    obtain ⟨g, gcap, rfl, hgW0, hLG, hgm⟩ := hOR.lg (by omega)
    rw [hsl]
    have HLG : Hid (LG wr g gcap ss) := hLG
    have hgW : Hid (W.heap.size ≤ g) := hgW0
    have HOR : Hid (ORs wr W.heap.size (.slice (some ⟨g, 0, none⟩) (y + 1) gcap) ss) := by rw [hsl] at hOR; exact hOR
    have hgc2 : y + 1 ≤ gcap := by obtain ⟨cur, q1, q2, q3, q4⟩ := hLG; omega
    have Hgm : Hid (gcap ≤ maxLen) := hgm
    unfold maxLen at hgm
    clear hsl hOR hEl sr hLG hgW0
    by_cases hlt : y < on
    · obtain ⟨x, rfl, hop⟩ := (HL.out.below SR.out.below).at hlt
      obtain ⟨wa, lw, cw, ba, lb, cb, e12, e13, hcell, hz, hb, hlw, hlb⟩ := hop
      obtain ⟨ja, jb, e1, hja, e3, hjb, hO⟩ := opd_of HR.out hlt
      obtain ⟨x0, y0, z0, hA⟩ : ∃ x0 y0 z0, RL.getD ja (0, 0, 0) = (x0, y0, z0) := ⟨_, _, _, rfl⟩
      obtain ⟨H, V, C, hB⟩ : ∃ H V C, RL.getD (y + 1) (0, 0, 0) = (H, V, C) := ⟨_, _, _, rfl⟩
      obtain ⟨hOpd, hb6⟩ := hO _ _ _ _ _ _ hA hB
      rw [e12, e13, Int.toNat_natCast, Int.toNat_natCast] at hOpd
      obtain ⟨a1, a2, a3⟩ := HCu.out.at (show ja < RL.length by omega)
      obtain ⟨b1, b2, b3⟩ := HCu.out.at (show y + 1 < RL.length by omega)
      rw [hA] at a1 a2 a3
      rw [hB] at b1 b2 b3
      simp only at a1 a2 a3 b1 b2 b3
      have hfa := HF.out ja (by omega)
      have hfb := HF.out jb (by omega)
      rw [hA] at hfa
      have hsucc := tnA_succ (Z := Z) (B := B) (L := RL) (x := xs) e1 e3 hja hjb
      rw [hA, hB] at hsucc
      have HTn : Hid (tnL O Z B RL xs (y + 1) = tnL O Z B RL xs y ++ [opT (O y) (Z y) (B y) (x0, y0, z0) (H, V, C) (tnA O Z B RL xs ja) (tnA O Z B RL xs jb)]) := by
        unfold Hid; rw [tnL_succ, hsucc]
      have hoa := HEl.out.2.1 ja (by rw [HSL.out]; omega)
      have hob := HEl.out.2.1 jb (by rw [HSL.out]; omega)
      rw [tnL_get _ _ _ _ _ hja] at hoa
      rw [tnL_get _ _ _ _ _ hjb] at hob
      obtain ⟨aa, ca, eA, hra, -⟩ := hoa.row
      obtain ⟨ab, cb', eB, hrb, -⟩ := hob.row
      have hcA := HLG.out.at (show ja < ss.length by rw [HSL.out]; omega)
      have hcB := HLG.out.at (show jb < ss.length by rw [HSL.out]; omega)
      rw [eA] at hcA
      rw [eB] at hcB
      obtain ⟨na, hna⟩ : ∃ na, (tnA O Z B RL xs ja).length = na := ⟨_, rfl⟩
      obtain ⟨nb, hnb⟩ : ∃ nb, (tnA O Z B RL xs jb).length = nb := ⟨_, rfl⟩
      rw [hna] at hcA hra hfa
      rw [hnb] at hcB hrb hfb
      have hnab : O y 0 = 6 → nb = na := fun q => by
        have h6 := hb6 q
        have h7 := hfb.1
        rw [h6] at h7
        have h8 := hfa.1
        simp only at h7 h8
        omega
      obtain ⟨xb, cxb, yb, hkb, hrb9, hy9⟩ : ∃ (xb : Option Addr) (cxb : Nat) (yb : List Int), ((O y 0 = 6 ∧ wr.cell? ⟨g, jb, none⟩ = some (.slice xb na cxb)) ∨ (O y 0 ≠ 6 ∧ xb = aa ∧ cxb = ca)) ∧ IRow .i8 wr xb na cxb yb ∧ (O y 0 = 6 → tnA O Z B RL xs jb = yb) := by
        by_cases q6 : O y 0 = 6
        · have := hnab q6
          subst this
          exact ⟨ab, cb', _, .inl ⟨q6, hcB⟩, hrb, fun _ => rfl⟩
        · exact ⟨aa, ca, _, .inr ⟨q6, rfl, rfl⟩, hra, fun q => absurd q q6⟩
      have HT : Hid (∀ (w' : World), Below wr.heap.size wr w' → _) := fun w' hbw => make_any (O y 0) (O y 1) (O y 2) (O y 3) (O y 4) (O y 5) (O y 6) (O y 7) (O y 8) (O y 9) (O y 10) (O y 11) wa lw cw ba lb cb (O y 14) (O y 15) (O y 16) (O y 17) (O y 18) (O y 19) (O y 20) (O y 21) x0 y0 z0 H V C w' hOpd (Z y) (B y) (hz.below hbw) (hb.below hbw) aa na ca (tnA O Z B RL xs ja) (hra.below hbw) hfa.1 xb cxb yb (hrb9.below hbw) (tnA O Z B RL xs jb) hy9
      have hopl : Hid (∀ q v, [.int .i64 (O y 0), .int .i64 (O y 1), .int .i64 (O y 2), .int .i64 (O y 3), .int .i64 (O y 4), .int .i64 (O y 5), .int .i64 (O y 6), .int .i64 (O y 7), .int .i64 (O y 8), .int .i64 (O y 9), .int .i64 (O y 10), .int .i64 (O y 11), .slice wa lw cw, .slice ba lb cb, .int .i64 (O y 14), .int .i64 (O y 15), .int .i64 (O y 16), .int .i64 (O y 17), .int .i64 (O y 18), .int .i64 (O y 19), .int .i64 (O y 20), .int .i64 (O y 21)][q]? = some v → wr.cell? ((x.add (y * 22)).add q) = some v) := hcell
      have HD1 : Hid (O y 1 = (ja : Int)) := e1
      have HD2 : Hid (O y 2 = (jb : Int)) := e3
      have hcA' : Hid (wr.cell? ⟨g, ja, none⟩ = some (.slice aa na ca)) := hcA
      have hcB' : Hid (wr.cell? ⟨g, jb, none⟩ = some (.slice ab nb cb')) := hcB
      have s7 := SR.out.new (c := #[.int .i64 (O y 0), .int .i64 (O y 1), .int .i64 (O y 2), .int .i64 (O y 3), .int .i64 (O y 4), .int .i64 (O y 5), .int .i64 (O y 6), .int .i64 (O y 7), .int .i64 (O y 8), .int .i64 (O y 9), .int .i64 (O y 10), .int .i64 (O y 11), .slice wa lw cw, .slice ba lb cb, .int .i64 (O y 14), .int .i64 (O y 15), .int .i64 (O y 16), .int .i64 (O y 17), .int .i64 (O y 18), .int .i64 (O y 19), .int .i64 (O y 20), .int .i64 (O y 21)]) (t := 49)
      have HA3 : Hid (curs[ja * 3]? = some (.int .i64 x0) ∧ curs[ja * 3 + 1]? = some (.int .i64 y0) ∧ curs[ja * 3 + 2]? = some (.int .i64 z0)) := ⟨a1, a2, a3⟩
      have HB3 : Hid (curs[(y + 1) * 3]? = some (.int .i64 H) ∧ curs[(y + 1) * 3 + 1]? = some (.int .i64 V) ∧ curs[(y + 1) * 3 + 2]? = some (.int .i64 C)) := ⟨b1, b2, b3⟩
      clear hrb9 hy9 hcell hz hb e1 e3 hO hOpd hb6 a1 a2 a3 b1 b2 b3 hfa hfb hsucc hoa hob hra hrb eA eB hcA hcB hA hB hnab e12 e13 hlw hlb HF
      obtain ⟨vo, hvo⟩ : ∃ vo, Value.agg #[.int .i64 (O y 0), .int .i64 (O y 1), .int .i64 (O y 2), .int .i64 (O y 3), .int .i64 (O y 4), .int .i64 (O y 5), .int .i64 (O y 6), .int .i64 (O y 7), .int .i64 (O y 8), .int .i64 (O y 9), .int .i64 (O y 10), .int .i64 (O y 11), .slice wa lw cw, .slice ba lb cb, .int .i64 (O y 14), .int .i64 (O y 15), .int .i64 (O y 16), .int .i64 (O y 17), .int .i64 (O y 18), .int .i64 (O y 19), .int .i64 (O y 20), .int .i64 (O y 21)] = vo := ⟨_, rfl⟩
      have HVO : Hid (Value.agg #[.int .i64 (O y 0), .int .i64 (O y 1), .int .i64 (O y 2), .int .i64 (O y 3), .int .i64 (O y 4), .int .i64 (O y 5), .int .i64 (O y 6), .int .i64 (O y 7), .int .i64 (O y 8), .int .i64 (O y 9), .int .i64 (O y 10), .int .i64 (O y 11), .slice wa lw cw, .slice ba lb cb, .int .i64 (O y 14), .int .i64 (O y 15), .int .i64 (O y 16), .int .i64 (O y 17), .int .i64 (O y 18), .int .i64 (O y 19), .int .i64 (O y 20), .int .i64 (O y 21)] = vo) := hvo
      go_upto_region 10 with ((refine wpList_load_any rfl 49 (.tmp 38) rfl _ rfl [.int .i64 (O y 0), .int .i64 (O y 1), .int .i64 (O y 2), .int .i64 (O y 3), .int .i64 (O y 4), .int .i64 (O y 5), .int .i64 (O y 6), .int .i64 (O y 7), .int .i64 (O y 8), .int .i64 (O y 9), .int .i64 (O y 10), .int .i64 (O y 11), .slice wa lw cw, .slice ba lb cb, .int .i64 (O y 14), .int .i64 (O y 15), .int .i64 (O y 16), .int .i64 (O y 17), .int .i64 (O y 18), .int .i64 (O y 19), .int .i64 (O y 20), .int .i64 (O y 21)] _ hopl.out Tryz.underlying49 rfl (by kernel_rfl) ?_; (show wpList _ _ _ _ (Act.put _ _ (Value.agg #[.int .i64 (O y 0), .int .i64 (O y 1), .int .i64 (O y 2), .int .i64 (O y 3), .int .i64 (O y 4), .int .i64 (O y 5), .int .i64 (O y 6), .int .i64 (O y 7), .int .i64 (O y 8), .int .i64 (O y 9), .int .i64 (O y 10), .int .i64 (O y 11), .slice wa lw cw, .slice ba lb cb, .int .i64 (O y 14), .int .i64 (O y 15), .int .i64 (O y 16), .int .i64 (O y 17), .int .i64 (O y 18), .int .i64 (O y 19), .int .i64 (O y 20), .int .i64 (O y 21)])) _); rw [hvo]; clear hvo; refine wpList_run1 rfl (some 11) rfl (.pointer (some ⟨wr.heap.size, 0, none⟩)) (wr.alloc (.cells #[.int .i64 0, .int .i64 0, .int .i64 0, .int .i64 0, .int .i64 0, .int .i64 0, .int .i64 0, .int .i64 0, .int .i64 0, .int .i64 0, .int .i64 0, .int .i64 0, .slice none 0 0, .slice none 0 0, .int .i64 0, .int .i64 0, .int .i64 0, .int .i64 0, .int .i64 0, .int .i64 0, .int .i64 0, .int .i64 0] 49)) (by kernel_rfl) ?_; refine wpList_run1 rfl (some 10) rfl (.int .i64 (y : Int)) (wr.alloc (.cells #[.int .i64 0, .int .i64 0, .int .i64 0, .int .i64 0, .int .i64 0, .int .i64 0, .int .i64 0, .int .i64 0, .int .i64 0, .int .i64 0, .int .i64 0, .int .i64 0, .slice none 0 0, .slice none 0 0, .int .i64 0, .int .i64 0, .int .i64 0, .int .i64 0, .int .i64 0, .int .i64 0, .int .i64 0, .int .i64 0] 49)) (by kernel_rfl) ?_; refine wpList_st_new rfl 49 (.tmp 11) (.tmp 39) rfl wr #[.int .i64 0, .int .i64 0, .int .i64 0, .int .i64 0, .int .i64 0, .int .i64 0, .int .i64 0, .int .i64 0, .int .i64 0, .int .i64 0, .int .i64 0, .int .i64 0, .slice none 0 0, .slice none 0 0, .int .i64 0, .int .i64 0, .int .i64 0, .int .i64 0, .int .i64 0, .int .i64 0, .int .i64 0, .int .i64 0] #[.int .i64 (O y 0), .int .i64 (O y 1), .int .i64 (O y 2), .int .i64 (O y 3), .int .i64 (O y 4), .int .i64 (O y 5), .int .i64 (O y 6), .int .i64 (O y 7), .int .i64 (O y 8), .int .i64 (O y 9), .int .i64 (O y 10), .int .i64 (O y 11), .slice wa lw cw, .slice ba lb cb, .int .i64 (O y 14), .int .i64 (O y 15), .int .i64 (O y 16), .int .i64 (O y 17), .int .i64 (O y 18), .int .i64 (O y 19), .int .i64 (O y 20), .int .i64 (O y 21)] (by kernel_rfl) (Eq.trans (by kernel_rfl : _ = vo) HVO.out.symm) (by kernel_rfl) rfl (by simp [Value.oneCell']) ?_))
      obtain ⟨w7, hw7⟩ : ∃ w7, wr.alloc (.cells #[.int .i64 (O y 0), .int .i64 (O y 1), .int .i64 (O y 2), .int .i64 (O y 3), .int .i64 (O y 4), .int .i64 (O y 5), .int .i64 (O y 6), .int .i64 (O y 7), .int .i64 (O y 8), .int .i64 (O y 9), .int .i64 (O y 10), .int .i64 (O y 11), .slice wa lw cw, .slice ba lb cb, .int .i64 (O y 14), .int .i64 (O y 15), .int .i64 (O y 16), .int .i64 (O y 17), .int .i64 (O y 18), .int .i64 (O y 19), .int .i64 (O y 20), .int .i64 (O y 21)] 49) = w7 := ⟨_, rfl⟩
      have HB7 : Hid (Below wr.heap.size wr w7) := by unfold Hid; rw [← hw7]; exact bal _ _
      rw [hw7] at s7 ⊢
      obtain ⟨ob, hob⟩ : ∃ ob, wr.heap.size = ob := ⟨_, rfl⟩
      rw [hob] at s7 ⊢
      have S7 : Hid (St W w7 _) := s7
      have hG1 := s7.h1
      have hobg : Hid (ob ≠ g) := fun e => by
        obtain ⟨cur, q, -⟩ := HLG.out.below HB7.out
        rw [← e, hG1] at q
        simp at q
      have hG3 := s7.h3
      have HG1 : Hid (w7.heap[ob]? = some (.cells #[.int .i64 (O y 0), .int .i64 (O y 1), .int .i64 (O y 2), .int .i64 (O y 3), .int .i64 (O y 4), .int .i64 (O y 5), .int .i64 (O y 6), .int .i64 (O y 7), .int .i64 (O y 8), .int .i64 (O y 9), .int .i64 (O y 10), .int .i64 (O y 11), .slice wa lw cw, .slice ba lb cb, .int .i64 (O y 14), .int .i64 (O y 15), .int .i64 (O y 16), .int .i64 (O y 17), .int .i64 (O y 18), .int .i64 (O y 19), .int .i64 (O y 20), .int .i64 (O y 21)] 49 (0, 0))) := hG1
      have HG3 : Hid (w7.heap[gs]? = some (.cells curs 23 (0, 0))) := hG3
      clear hw7 hob s7 hG1 hG3
      have d0 : w7.cell? ⟨ob, 0, none⟩ = some (.int .i64 (O y 0)) := ((cells_at HG1.out).1 0).trans rfl
      have d1 : w7.cell? ⟨ob, 1, none⟩ = some (.int .i64 (ja : Int)) := by rw [← HD1.out]; exact ((cells_at HG1.out).1 1).trans rfl
      have d2 : w7.cell? ⟨ob, 2, none⟩ = some (.int .i64 (jb : Int)) := by rw [← HD2.out]; exact ((cells_at HG1.out).1 2).trans rfl
      have dA : w7.cell? ⟨g, ja, none⟩ = some (.slice aa na ca) := (HB7.out.cell (World.block_lt_of_cell? wr _ hcA'.out)).trans hcA'.out
      have HdA : Hid (w7.cell? ⟨g, ja, none⟩ = some (.slice aa na ca)) := dA
      have Hd1 : Hid (w7.cell? ⟨ob, 1, none⟩ = some (.int .i64 (ja : Int))) := d1
      rcases hkb with ⟨q6, hcb⟩ | ⟨q6, e9, e8⟩
      rotate_left
      · obtain rfl : aa = xb := e9.symm
        obtain rfl : ca = cxb := e8.symm
        clear e9 e8
        have q6' : (O y 0 == 6) = false := by simp [q6]
        clear q6
        go_upto_region 13 with fail
        clear d0 d1 d2 dA q6'
        refine regionC (fun w' => w'.heap[ob]? = some (.cells #[.int .i64 (O y 0), .int .i64 (O y 1), .int .i64 (O y 2), .int .i64 (O y 3), .int .i64 (O y 4), .int .i64 (O y 5), .int .i64 (O y 6), .int .i64 (O y 7), .int .i64 (O y 8), .int .i64 (O y 9), .int .i64 (O y 10), .int .i64 (O y 11), .slice wa lw cw, .slice ba lb cb, .int .i64 (O y 14), .int .i64 (O y 15), .int .i64 (O y 16), .int .i64 (O y 17), .int .i64 (O y 18), .int .i64 (O y 19), .int .i64 (O y 20), .int .i64 (O y 21)] 49 (0, 0)) ∧ w'.heap[gs]? = some (.cells curs 23 (0, 0)) ∧ w'.cell? ⟨g, ja, none⟩ = some (.slice aa na ca)) (by kernel_rfl) ?_
        obtain ⟨we, hwe⟩ : ∃ we, w7.drew = we := ⟨_, rfl⟩
        have HBe : Hid (Below w7.heap.size w7 we) := by unfold Hid; rw [← hwe]; exact (Below.refl _ _).drew
        rw [hwe]
        clear hwe
        have HCl : Hid (∀ w', Below w7.heap.size w7 w' → w'.heap[ob]? = some (.cells #[.int .i64 (O y 0), .int .i64 (O y 1), .int .i64 (O y 2), .int .i64 (O y 3), .int .i64 (O y 4), .int .i64 (O y 5), .int .i64 (O y 6), .int .i64 (O y 7), .int .i64 (O y 8), .int .i64 (O y 9), .int .i64 (O y 10), .int .i64 (O y 11), .slice wa lw cw, .slice ba lb cb, .int .i64 (O y 14), .int .i64 (O y 15), .int .i64 (O y 16), .int .i64 (O y 17), .int .i64 (O y 18), .int .i64 (O y 19), .int .i64 (O y 20), .int .i64 (O y 21)] 49 (0, 0)) ∧ w'.heap[gs]? = some (.cells curs 23 (0, 0)) ∧ w'.cell? ⟨g, ja, none⟩ = some (.slice aa na ca)) := fun w' hw' => ⟨(hw'.block _ (lt_of_heap HG1.out)).trans HG1.out, (hw'.block _ (lt_of_heap HG3.out)).trans HG3.out, (hw'.cell (World.block_lt_of_cell? w7 _ HdA.out)).trans HdA.out⟩
        have HC1 : Hid (∀ w' : World, w'.heap[ob]? = some (.cells #[.int .i64 (O y 0), .int .i64 (O y 1), .int .i64 (O y 2), .int .i64 (O y 3), .int .i64 (O y 4), .int .i64 (O y 5), .int .i64 (O y 6), .int .i64 (O y 7), .int .i64 (O y 8), .int .i64 (O y 9), .int .i64 (O y 10), .int .i64 (O y 11), .slice wa lw cw, .slice ba lb cb, .int .i64 (O y 14), .int .i64 (O y 15), .int .i64 (O y 16), .int .i64 (O y 17), .int .i64 (O y 18), .int .i64 (O y 19), .int .i64 (O y 20), .int .i64 (O y 21)] 49 (0, 0)) → w'.cell? ⟨ob, 1, none⟩ = some (.int .i64 (ja : Int))) := fun w' hw' => by rw [← HD1.out]; exact ((cells_at hw').1 1).trans rfl
        refine takeC 0 (v := .slice (some ⟨g, 0, none⟩) (y + 1) gcap) rfl rfl (by kernel_rfl) (by kernel_rfl) (by kernel_rfl) (fun _ _ _ h => h) (fun _ => rfl) rfl (fun w' hw' => by go_simp) ?_
        refine takeC 1 (v := .agg #[.int .i64 (O y 0), .int .i64 (O y 1), .int .i64 (O y 2), .int .i64 (O y 3), .int .i64 (O y 4), .int .i64 (O y 5), .int .i64 (O y 6), .int .i64 (O y 7), .int .i64 (O y 8), .int .i64 (O y 9), .int .i64 (O y 10), .int .i64 (O y 11), .slice wa lw cw, .slice ba lb cb, .int .i64 (O y 14), .int .i64 (O y 15), .int .i64 (O y 16), .int .i64 (O y 17), .int .i64 (O y 18), .int .i64 (O y 19), .int .i64 (O y 20), .int .i64 (O y 21)]) rfl rfl (by kernel_rfl) (by kernel_rfl) (by kernel_rfl) (fun _ _ _ h => h) (fun _ => rfl) rfl (fun w' hw' => run_la 49 (.tmp 11) rfl ⟨ob, 0, none⟩ (by kernel_rfl) [.int .i64 (O y 0), .int .i64 (O y 1), .int .i64 (O y 2), .int .i64 (O y 3), .int .i64 (O y 4), .int .i64 (O y 5), .int .i64 (O y 6), .int .i64 (O y 7), .int .i64 (O y 8), .int .i64 (O y 9), .int .i64 (O y 10), .int .i64 (O y 11), .slice wa lw cw, .slice ba lb cb, .int .i64 (O y 14), .int .i64 (O y 15), .int .i64 (O y 16), .int .i64 (O y 17), .int .i64 (O y 18), .int .i64 (O y 19), .int .i64 (O y 20), .int .i64 (O y 21)] _ (lcells hw'.1 (fget [.int .i64 (O y 0), .int .i64 (O y 1), .int .i64 (O y 2), .int .i64 (O y 3), .int .i64 (O y 4), .int .i64 (O y 5), .int .i64 (O y 6), .int .i64 (O y 7), .int .i64 (O y 8), .int .i64 (O y 9), .int .i64 (O y 10), .int .i64 (O y 11), .slice wa lw cw, .slice ba lb cb, .int .i64 (O y 14), .int .i64 (O y 15), .int .i64 (O y 16), .int .i64 (O y 17), .int .i64 (O y 18), .int .i64 (O y 19), .int .i64 (O y 20), .int .i64 (O y 21)] [])) Tryz.underlying49 rfl (by kernel_rfl)) ?_
        refine takeC 2 (v := .slice (some ⟨gs, 0, none⟩) (on + 1) caps) rfl rfl (by kernel_rfl) (by kernel_rfl) (by kernel_rfl) (fun _ _ _ h => h) (fun _ => rfl) rfl (fun w' hw' => by go_simp) ?_
        refine takeC 3 (v := .pointer (some ⟨ob, 1, none⟩)) rfl rfl (by kernel_rfl) (by kernel_rfl) (by kernel_rfl) (fun _ _ _ h => h) (fun _ => rfl) rfl (fun w' hw' => by go_simp) ?_
        refine takeC 4 (v := .int .i64 (ja : Int)) rfl rfl (by kernel_rfl) (by kernel_rfl) (by kernel_rfl) (fun _ _ _ h => h) (fun _ => rfl) rfl (fun w' hw' => by have hc := HC1.out w' hw'.1; go_simp) ?_
        refine takeC 5 (v := .pointer (some ⟨gs, ja * 3, none⟩)) rfl rfl (by kernel_rfl) (by kernel_rfl) (by kernel_rfl) (fun _ _ _ h => h) (fun _ => rfl) rfl (fun w' hw' => by go_simp; try (intro q; omega)) ?_
        refine takeC 6 (v := .agg #[.int .i64 x0, .int .i64 y0, .int .i64 z0]) rfl rfl (by kernel_rfl) (by kernel_rfl) (by kernel_rfl) (fun _ _ _ h => h) (fun _ => rfl) rfl (fun w' hw' => run_la 23 (.tmp 58) rfl ⟨gs, ja * 3, none⟩ (by kernel_rfl) [.int .i64 x0, .int .i64 y0, .int .i64 z0] _ (three_at hw'.2.1 HA3.out.1 HA3.out.2.1 HA3.out.2.2) Tryz.underlying23 rfl (by kernel_rfl)) ?_
        refine takeC 7 (v := .slice (some ⟨gs, 0, none⟩) (on + 1) caps) rfl rfl (by kernel_rfl) (by kernel_rfl) (by kernel_rfl) (fun _ _ _ h => h) (fun _ => rfl) rfl (fun w' hw' => by go_simp) ?_
        refine takeC 8 (v := .int .i64 (y : Int)) rfl rfl (by kernel_rfl) (by kernel_rfl) (by kernel_rfl) (fun _ _ _ h => h) (fun _ => rfl) rfl (fun w' hw' => by go_simp) ?_
        refine takeC 9 (v := .int .i64 ((y : Int) + 1)) rfl rfl (by kernel_rfl) (by kernel_rfl) (by kernel_rfl) (fun _ _ _ h => h) (fun _ => rfl) rfl (fun w' hw' => by go_simp; rw [IntKind.wrap_i64]; omega) ?_
        refine takeC 10 (v := .pointer (some ⟨gs, (y + 1) * 3, none⟩)) rfl rfl (by kernel_rfl) (by kernel_rfl) (by kernel_rfl) (fun _ _ _ h => h) (fun _ => rfl) rfl (fun w' hw' => by go_simp; try (intro q; omega)) ?_
        refine takeC 11 (v := .agg #[.int .i64 H, .int .i64 V, .int .i64 C]) rfl rfl (by kernel_rfl) (by kernel_rfl) (by kernel_rfl) (fun _ _ _ h => h) (fun _ => rfl) rfl (fun w' hw' => run_la 23 (.tmp 63) rfl ⟨gs, (y + 1) * 3, none⟩ (by kernel_rfl) [.int .i64 H, .int .i64 V, .int .i64 C] _ (three_at hw'.2.1 HB3.out.1 HB3.out.2.1 HB3.out.2.2) Tryz.underlying23 rfl (by kernel_rfl)) ?_
        refine takeC 12 (v := .slice (some ⟨g, 0, none⟩) (y + 1) gcap) rfl rfl (by kernel_rfl) (by kernel_rfl) (by kernel_rfl) (fun _ _ _ h => h) (fun _ => rfl) rfl (fun w' hw' => by go_simp) ?_
        refine takeC 13 (v := .pointer (some ⟨ob, 1, none⟩)) rfl rfl (by kernel_rfl) (by kernel_rfl) (by kernel_rfl) (fun _ _ _ h => h) (fun _ => rfl) rfl (fun w' hw' => by go_simp) ?_
        refine takeC 14 (v := .int .i64 (ja : Int)) rfl rfl (by kernel_rfl) (by kernel_rfl) (by kernel_rfl) (fun _ _ _ h => h) (fun _ => rfl) rfl (fun w' hw' => by have hc := HC1.out w' hw'.1; go_simp) ?_
        refine takeC 15 (v := .pointer (some ⟨g, ja, none⟩)) rfl rfl (by kernel_rfl) (by kernel_rfl) (by kernel_rfl) (fun _ _ _ h => h) (fun _ => rfl) rfl (fun w' hw' => by go_simp; try (intro q; omega)) ?_
        refine takeC 16 (v := .slice aa na ca) rfl rfl (by kernel_rfl) (by kernel_rfl) (by kernel_rfl) (fun _ _ _ h => h) (fun _ => rfl) rfl (fun w' hw' => by have hc := hw'.2.2; go_simp) ?_
        refine takeC 17 (v := .slice aa na ca) rfl rfl (by kernel_rfl) (by kernel_rfl) (by kernel_rfl) (fun _ _ _ h => h) (fun _ => rfl) rfl (fun w' hw' => by go_simp) ?_
        have HWe : Hid (Below wr.heap.size wr we) := btr HB7.out HBe.out
        refine stepK 18 (HCl.out _ HBe.out) (by kernel_rfl) rfl rfl 14 #[.agg #[.int .i64 (O y 0), .int .i64 (O y 1), .int .i64 (O y 2), .int .i64 (O y 3), .int .i64 (O y 4), .int .i64 (O y 5), .int .i64 (O y 6), .int .i64 (O y 7), .int .i64 (O y 8), .int .i64 (O y 9), .int .i64 (O y 10), .int .i64 (O y 11), .slice wa lw cw, .slice ba lb cb, .int .i64 (O y 14), .int .i64 (O y 15), .int .i64 (O y 16), .int .i64 (O y 17), .int .i64 (O y 18), .int .i64 (O y 19), .int .i64 (O y 20), .int .i64 (O y 21)], .agg #[.int .i64 x0, .int .i64 y0, .int .i64 z0], .agg #[.int .i64 H, .int .i64 V, .int .i64 C], .slice aa na ca, .slice aa na ca] (by kernel_rfl) (HT.out we HWe.out) ?_
        rintro e w9 ⟨⟨sv, rfl, hO9⟩, hb9⟩
        obtain ⟨va9, vc9, rfl, -, -⟩ := hO9.row
        obtain ⟨X, hXe⟩ : ∃ X, opT (O y) (Z y) (B y) (x0, y0, z0) (H, V, C) (tnA O Z B RL xs ja) (tnA O Z B RL xs jb) = X := ⟨_, rfl⟩
        have hO9' : Own .i8 41 w9 we.heap.size (.slice va9 X.length vc9) X := by rw [← hXe]; exact hO9
        have hval : Value.slice va9 (teL (O y 0) (O y 4) (O y 5) (O y 6) (O y 7) (O y 8) (O y 9) (O y 10) (O y 11) (O y 14) (O y 15) (O y 16) (O y 17) (O y 18) (O y 19) (O y 20) (O y 21) x0 y0 z0 H V C (Z y) (B y) (tnA O Z B RL xs ja) (tnA O Z B RL xs jb)).length vc9 = .slice va9 X.length vc9 := by rw [← hXe]; rfl
        rw [hXe] at HTn
        refine ⟨_, rfl, ?_⟩
        rw [hval]
        have HO9 : Hid (Own .i8 41 w9 we.heap.size (.slice va9 X.length vc9) X) := hO9'
        have Hb9 : Hid (Below we.heap.size we w9) := hb9
        clear hO9 hO9' hval hXe hb9 HT
        obtain ⟨NX, hNX⟩ : ∃ NX, X.length = NX := ⟨_, rfl⟩
        rw [hNX] at HO9 ⊢
        clear hNX
        refine stepR 19 (HCl.out _ (btr HBe.out Hb9.out)) (by kernel_rfl) rfl rfl (.slice (some ⟨w9.heap.size, 0, none⟩) 1 1) (w9.alloc (.cells #[.slice va9 NX vc9] 27)) (by kernel_rfl) ?_
        obtain ⟨sv, hsv⟩ : ∃ sv, Value.slice va9 NX vc9 = sv := ⟨_, rfl⟩
        have hone : sv.oneCell' = true := by rw [← hsv]; rfl
        rw [hsv] at HO9 ⊢
        clear hsv
        have HB10 : Hid (Below we.heap.size we (w9.alloc (.cells #[sv] 27))) := btr Hb9.out (bal _ _)
        have HLG10 : Hid (LG (w9.alloc (.cells #[sv] 27)) g gcap ss) := HLG.out.below (btr HWe.out HB10.out)
        have hE10 : Hid (Ells (w9.alloc (.cells #[sv] 27)) W.heap.size (ss ++ [sv]) (tnL O Z B RL xs (y + 1))) := by
          unfold Hid
          rw [HTn.out]
          exact ((HEl.out.below HWe.out).add Hb9.out HO9.out (Nat.le_trans SR.out.size HWe.out.size)).below (bal _ _)
        have S10 : Hid (St W (w9.alloc (.cells #[sv] 27)) ((bf, #[.int .i64 0, .int .i64 0, .int .i64 0], 32) :: (gs, curs, 23) :: (W.heap.size + 1, #[.int .i64 0, .int .i64 0, .int .i64 0], 32) :: (W.heap.size, #[.int .i64 h, .int .i64 w, .int .i64 c, .int .i64 lo, .int .i64 hi, .slice (some x) on oc, .int .i64 ot], 26) :: [])) := (SR.out.call HWe.out).call HB10.out
        have hnw : Hid ((w9.alloc (.cells #[sv] 27)).heap[w9.heap.size]? = some (.cells #[sv] 27 (0, 0))) := heap_alloc_new w9 _
        have HB11 : Hid (Below w7.heap.size w7 (w9.alloc (.cells #[sv] 27))) := btr HBe.out HB10.out
        obtain ⟨w10, hw10⟩ : ∃ w10, w9.alloc (.cells #[sv] 27) = w10 := ⟨_, rfl⟩
        rw [hw10] at HB10 HLG10 hE10 S10 hnw HB11 ⊢
        clear hw10
        refine stepG 20 (HCl.out _ HB11.out) (by kernel_rfl) rfl rfl (.tmp 53) (.tmp 72) rfl W.heap.size g gcap ss (y + 1) HSL.out hgW.out Hgm.out (by kernel_rfl) w9.heap.size sv (by kernel_rfl) hnw.out hone HLG10.out (by omega) S10.out.size ?_
        intro v11 w11 hOR11 hgr
        have S11 : Hid (St W w11 ((bf, #[.int .i64 0, .int .i64 0, .int .i64 0], 32) :: (gs, curs, 23) :: (W.heap.size + 1, #[.int .i64 0, .int .i64 0, .int .i64 0], 32) :: (W.heap.size, #[.int .i64 h, .int .i64 w, .int .i64 c, .int .i64 lo, .int .i64 hi, .slice (some x) on oc, .int .i64 ot], 26) :: [])) := hgr.st S10.out HLG10.out hgW.out (by simp)
        have hE11 : Hid (Ells w11 W.heap.size (ss ++ [sv]) (tnL O Z B RL xs (y + 1))) := hgr.ells hE10.out HLG10.out
        have HOR11 : Hid (ORs w11 W.heap.size v11 (ss ++ [sv])) := hOR11
        have hC11 : w11.heap[ob]? = some (.cells #[.int .i64 (O y 0), .int .i64 (O y 1), .int .i64 (O y 2), .int .i64 (O y 3), .int .i64 (O y 4), .int .i64 (O y 5), .int .i64 (O y 6), .int .i64 (O y 7), .int .i64 (O y 8), .int .i64 (O y 9), .int .i64 (O y 10), .int .i64 (O y 11), .slice wa lw cw, .slice ba lb cb, .int .i64 (O y 14), .int .i64 (O y 15), .int .i64 (O y 16), .int .i64 (O y 17), .int .i64 (O y 18), .int .i64 (O y 19), .int .i64 (O y 20), .int .i64 (O y 21)] 49 (0, 0)) ∧ w11.heap[gs]? = some (.cells curs 23 (0, 0)) ∧ w11.cell? ⟨g, ja, none⟩ = some (.slice aa na ca) :=
          ⟨hgr.heap HLG10.out (HCl.out _ HB11.out).1 (by decide), hgr.heap HLG10.out (HCl.out _ HB11.out).2.1 (by decide), hgr.cell (HCl.out _ HB11.out).2.2 (fun e => by simp only [Addr.mk.injEq, true_and, and_true] at e; omega)⟩
        clear HLG10 hE10 S10 HCl hgr hOR11
        refine stepR 21 hC11 (by kernel_rfl) rfl rfl v11 w11 (by kernel_rfl) ?_
        refine doneC hC11 (by kernel_rfl) ?_ _
        clear hC11
        go_wp2
        go_roundw
        case rel => exact ⟨y + 1, ss ++ [sv], _, rfl, by omega, by go_num, by rw [List.length_append, HSL.out]; rfl, HOR11.out, hE11.out, S11.out⟩
        case measure => simp [intOf]; omega
      · have q6' : (O y 0 == 6) = true := by simp [q6]
        have dB : w7.cell? ⟨g, jb, none⟩ = some (.slice xb na cxb) := (HB7.out.cell (World.block_lt_of_cell? wr _ hcb)).trans hcb
        clear q6 hcb
        go_upto_region 13 with fail
        clear d0 d1 d2 dA dB q6'
        refine regionC (fun w' => w'.heap[ob]? = some (.cells #[.int .i64 (O y 0), .int .i64 (O y 1), .int .i64 (O y 2), .int .i64 (O y 3), .int .i64 (O y 4), .int .i64 (O y 5), .int .i64 (O y 6), .int .i64 (O y 7), .int .i64 (O y 8), .int .i64 (O y 9), .int .i64 (O y 10), .int .i64 (O y 11), .slice wa lw cw, .slice ba lb cb, .int .i64 (O y 14), .int .i64 (O y 15), .int .i64 (O y 16), .int .i64 (O y 17), .int .i64 (O y 18), .int .i64 (O y 19), .int .i64 (O y 20), .int .i64 (O y 21)] 49 (0, 0)) ∧ w'.heap[gs]? = some (.cells curs 23 (0, 0)) ∧ w'.cell? ⟨g, ja, none⟩ = some (.slice aa na ca)) (by kernel_rfl) ?_
        obtain ⟨we, hwe⟩ : ∃ we, w7.drew = we := ⟨_, rfl⟩
        have HBe : Hid (Below w7.heap.size w7 we) := by unfold Hid; rw [← hwe]; exact (Below.refl _ _).drew
        rw [hwe]
        clear hwe
        have HCl : Hid (∀ w', Below w7.heap.size w7 w' → w'.heap[ob]? = some (.cells #[.int .i64 (O y 0), .int .i64 (O y 1), .int .i64 (O y 2), .int .i64 (O y 3), .int .i64 (O y 4), .int .i64 (O y 5), .int .i64 (O y 6), .int .i64 (O y 7), .int .i64 (O y 8), .int .i64 (O y 9), .int .i64 (O y 10), .int .i64 (O y 11), .slice wa lw cw, .slice ba lb cb, .int .i64 (O y 14), .int .i64 (O y 15), .int .i64 (O y 16), .int .i64 (O y 17), .int .i64 (O y 18), .int .i64 (O y 19), .int .i64 (O y 20), .int .i64 (O y 21)] 49 (0, 0)) ∧ w'.heap[gs]? = some (.cells curs 23 (0, 0)) ∧ w'.cell? ⟨g, ja, none⟩ = some (.slice aa na ca)) := fun w' hw' => ⟨(hw'.block _ (lt_of_heap HG1.out)).trans HG1.out, (hw'.block _ (lt_of_heap HG3.out)).trans HG3.out, (hw'.cell (World.block_lt_of_cell? w7 _ HdA.out)).trans HdA.out⟩
        have HC1 : Hid (∀ w' : World, w'.heap[ob]? = some (.cells #[.int .i64 (O y 0), .int .i64 (O y 1), .int .i64 (O y 2), .int .i64 (O y 3), .int .i64 (O y 4), .int .i64 (O y 5), .int .i64 (O y 6), .int .i64 (O y 7), .int .i64 (O y 8), .int .i64 (O y 9), .int .i64 (O y 10), .int .i64 (O y 11), .slice wa lw cw, .slice ba lb cb, .int .i64 (O y 14), .int .i64 (O y 15), .int .i64 (O y 16), .int .i64 (O y 17), .int .i64 (O y 18), .int .i64 (O y 19), .int .i64 (O y 20), .int .i64 (O y 21)] 49 (0, 0)) → w'.cell? ⟨ob, 1, none⟩ = some (.int .i64 (ja : Int))) := fun w' hw' => by rw [← HD1.out]; exact ((cells_at hw').1 1).trans rfl
        refine takeC 0 (v := .slice (some ⟨g, 0, none⟩) (y + 1) gcap) rfl rfl (by kernel_rfl) (by kernel_rfl) (by kernel_rfl) (fun _ _ _ h => h) (fun _ => rfl) rfl (fun w' hw' => by go_simp) ?_
        refine takeC 1 (v := .agg #[.int .i64 (O y 0), .int .i64 (O y 1), .int .i64 (O y 2), .int .i64 (O y 3), .int .i64 (O y 4), .int .i64 (O y 5), .int .i64 (O y 6), .int .i64 (O y 7), .int .i64 (O y 8), .int .i64 (O y 9), .int .i64 (O y 10), .int .i64 (O y 11), .slice wa lw cw, .slice ba lb cb, .int .i64 (O y 14), .int .i64 (O y 15), .int .i64 (O y 16), .int .i64 (O y 17), .int .i64 (O y 18), .int .i64 (O y 19), .int .i64 (O y 20), .int .i64 (O y 21)]) rfl rfl (by kernel_rfl) (by kernel_rfl) (by kernel_rfl) (fun _ _ _ h => h) (fun _ => rfl) rfl (fun w' hw' => run_la 49 (.tmp 11) rfl ⟨ob, 0, none⟩ (by kernel_rfl) [.int .i64 (O y 0), .int .i64 (O y 1), .int .i64 (O y 2), .int .i64 (O y 3), .int .i64 (O y 4), .int .i64 (O y 5), .int .i64 (O y 6), .int .i64 (O y 7), .int .i64 (O y 8), .int .i64 (O y 9), .int .i64 (O y 10), .int .i64 (O y 11), .slice wa lw cw, .slice ba lb cb, .int .i64 (O y 14), .int .i64 (O y 15), .int .i64 (O y 16), .int .i64 (O y 17), .int .i64 (O y 18), .int .i64 (O y 19), .int .i64 (O y 20), .int .i64 (O y 21)] _ (lcells hw'.1 (fget [.int .i64 (O y 0), .int .i64 (O y 1), .int .i64 (O y 2), .int .i64 (O y 3), .int .i64 (O y 4), .int .i64 (O y 5), .int .i64 (O y 6), .int .i64 (O y 7), .int .i64 (O y 8), .int .i64 (O y 9), .int .i64 (O y 10), .int .i64 (O y 11), .slice wa lw cw, .slice ba lb cb, .int .i64 (O y 14), .int .i64 (O y 15), .int .i64 (O y 16), .int .i64 (O y 17), .int .i64 (O y 18), .int .i64 (O y 19), .int .i64 (O y 20), .int .i64 (O y 21)] [])) Tryz.underlying49 rfl (by kernel_rfl)) ?_
        refine takeC 2 (v := .slice (some ⟨gs, 0, none⟩) (on + 1) caps) rfl rfl (by kernel_rfl) (by kernel_rfl) (by kernel_rfl) (fun _ _ _ h => h) (fun _ => rfl) rfl (fun w' hw' => by go_simp) ?_
        refine takeC 3 (v := .pointer (some ⟨ob, 1, none⟩)) rfl rfl (by kernel_rfl) (by kernel_rfl) (by kernel_rfl) (fun _ _ _ h => h) (fun _ => rfl) rfl (fun w' hw' => by go_simp) ?_
        refine takeC 4 (v := .int .i64 (ja : Int)) rfl rfl (by kernel_rfl) (by kernel_rfl) (by kernel_rfl) (fun _ _ _ h => h) (fun _ => rfl) rfl (fun w' hw' => by have hc := HC1.out w' hw'.1; go_simp) ?_
        refine takeC 5 (v := .pointer (some ⟨gs, ja * 3, none⟩)) rfl rfl (by kernel_rfl) (by kernel_rfl) (by kernel_rfl) (fun _ _ _ h => h) (fun _ => rfl) rfl (fun w' hw' => by go_simp; try (intro q; omega)) ?_
        refine takeC 6 (v := .agg #[.int .i64 x0, .int .i64 y0, .int .i64 z0]) rfl rfl (by kernel_rfl) (by kernel_rfl) (by kernel_rfl) (fun _ _ _ h => h) (fun _ => rfl) rfl (fun w' hw' => run_la 23 (.tmp 58) rfl ⟨gs, ja * 3, none⟩ (by kernel_rfl) [.int .i64 x0, .int .i64 y0, .int .i64 z0] _ (three_at hw'.2.1 HA3.out.1 HA3.out.2.1 HA3.out.2.2) Tryz.underlying23 rfl (by kernel_rfl)) ?_
        refine takeC 7 (v := .slice (some ⟨gs, 0, none⟩) (on + 1) caps) rfl rfl (by kernel_rfl) (by kernel_rfl) (by kernel_rfl) (fun _ _ _ h => h) (fun _ => rfl) rfl (fun w' hw' => by go_simp) ?_
        refine takeC 8 (v := .int .i64 (y : Int)) rfl rfl (by kernel_rfl) (by kernel_rfl) (by kernel_rfl) (fun _ _ _ h => h) (fun _ => rfl) rfl (fun w' hw' => by go_simp) ?_
        refine takeC 9 (v := .int .i64 ((y : Int) + 1)) rfl rfl (by kernel_rfl) (by kernel_rfl) (by kernel_rfl) (fun _ _ _ h => h) (fun _ => rfl) rfl (fun w' hw' => by go_simp; rw [IntKind.wrap_i64]; omega) ?_
        refine takeC 10 (v := .pointer (some ⟨gs, (y + 1) * 3, none⟩)) rfl rfl (by kernel_rfl) (by kernel_rfl) (by kernel_rfl) (fun _ _ _ h => h) (fun _ => rfl) rfl (fun w' hw' => by go_simp; try (intro q; omega)) ?_
        refine takeC 11 (v := .agg #[.int .i64 H, .int .i64 V, .int .i64 C]) rfl rfl (by kernel_rfl) (by kernel_rfl) (by kernel_rfl) (fun _ _ _ h => h) (fun _ => rfl) rfl (fun w' hw' => run_la 23 (.tmp 63) rfl ⟨gs, (y + 1) * 3, none⟩ (by kernel_rfl) [.int .i64 H, .int .i64 V, .int .i64 C] _ (three_at hw'.2.1 HB3.out.1 HB3.out.2.1 HB3.out.2.2) Tryz.underlying23 rfl (by kernel_rfl)) ?_
        refine takeC 12 (v := .slice (some ⟨g, 0, none⟩) (y + 1) gcap) rfl rfl (by kernel_rfl) (by kernel_rfl) (by kernel_rfl) (fun _ _ _ h => h) (fun _ => rfl) rfl (fun w' hw' => by go_simp) ?_
        refine takeC 13 (v := .pointer (some ⟨ob, 1, none⟩)) rfl rfl (by kernel_rfl) (by kernel_rfl) (by kernel_rfl) (fun _ _ _ h => h) (fun _ => rfl) rfl (fun w' hw' => by go_simp) ?_
        refine takeC 14 (v := .int .i64 (ja : Int)) rfl rfl (by kernel_rfl) (by kernel_rfl) (by kernel_rfl) (fun _ _ _ h => h) (fun _ => rfl) rfl (fun w' hw' => by have hc := HC1.out w' hw'.1; go_simp) ?_
        refine takeC 15 (v := .pointer (some ⟨g, ja, none⟩)) rfl rfl (by kernel_rfl) (by kernel_rfl) (by kernel_rfl) (fun _ _ _ h => h) (fun _ => rfl) rfl (fun w' hw' => by go_simp; try (intro q; omega)) ?_
        refine takeC 16 (v := .slice aa na ca) rfl rfl (by kernel_rfl) (by kernel_rfl) (by kernel_rfl) (fun _ _ _ h => h) (fun _ => rfl) rfl (fun w' hw' => by have hc := hw'.2.2; go_simp) ?_
        refine takeC 17 (v := .slice xb na cxb) rfl rfl (by kernel_rfl) (by kernel_rfl) (by kernel_rfl) (fun _ _ _ h => h) (fun _ => rfl) rfl (fun w' hw' => by go_simp) ?_
        have HWe : Hid (Below wr.heap.size wr we) := btr HB7.out HBe.out
        refine stepK 18 (HCl.out _ HBe.out) (by kernel_rfl) rfl rfl 14 #[.agg #[.int .i64 (O y 0), .int .i64 (O y 1), .int .i64 (O y 2), .int .i64 (O y 3), .int .i64 (O y 4), .int .i64 (O y 5), .int .i64 (O y 6), .int .i64 (O y 7), .int .i64 (O y 8), .int .i64 (O y 9), .int .i64 (O y 10), .int .i64 (O y 11), .slice wa lw cw, .slice ba lb cb, .int .i64 (O y 14), .int .i64 (O y 15), .int .i64 (O y 16), .int .i64 (O y 17), .int .i64 (O y 18), .int .i64 (O y 19), .int .i64 (O y 20), .int .i64 (O y 21)], .agg #[.int .i64 x0, .int .i64 y0, .int .i64 z0], .agg #[.int .i64 H, .int .i64 V, .int .i64 C], .slice aa na ca, .slice xb na cxb] (by kernel_rfl) (HT.out we HWe.out) ?_
        rintro e w9 ⟨⟨sv, rfl, hO9⟩, hb9⟩
        obtain ⟨va9, vc9, rfl, -, -⟩ := hO9.row
        obtain ⟨X, hXe⟩ : ∃ X, opT (O y) (Z y) (B y) (x0, y0, z0) (H, V, C) (tnA O Z B RL xs ja) (tnA O Z B RL xs jb) = X := ⟨_, rfl⟩
        have hO9' : Own .i8 41 w9 we.heap.size (.slice va9 X.length vc9) X := by rw [← hXe]; exact hO9
        have hval : Value.slice va9 (teL (O y 0) (O y 4) (O y 5) (O y 6) (O y 7) (O y 8) (O y 9) (O y 10) (O y 11) (O y 14) (O y 15) (O y 16) (O y 17) (O y 18) (O y 19) (O y 20) (O y 21) x0 y0 z0 H V C (Z y) (B y) (tnA O Z B RL xs ja) (tnA O Z B RL xs jb)).length vc9 = .slice va9 X.length vc9 := by rw [← hXe]; rfl
        rw [hXe] at HTn
        refine ⟨_, rfl, ?_⟩
        rw [hval]
        have HO9 : Hid (Own .i8 41 w9 we.heap.size (.slice va9 X.length vc9) X) := hO9'
        have Hb9 : Hid (Below we.heap.size we w9) := hb9
        clear hO9 hO9' hval hXe hb9 HT
        obtain ⟨NX, hNX⟩ : ∃ NX, X.length = NX := ⟨_, rfl⟩
        rw [hNX] at HO9 ⊢
        clear hNX
        refine stepR 19 (HCl.out _ (btr HBe.out Hb9.out)) (by kernel_rfl) rfl rfl (.slice (some ⟨w9.heap.size, 0, none⟩) 1 1) (w9.alloc (.cells #[.slice va9 NX vc9] 27)) (by kernel_rfl) ?_
        obtain ⟨sv, hsv⟩ : ∃ sv, Value.slice va9 NX vc9 = sv := ⟨_, rfl⟩
        have hone : sv.oneCell' = true := by rw [← hsv]; rfl
        rw [hsv] at HO9 ⊢
        clear hsv
        have HB10 : Hid (Below we.heap.size we (w9.alloc (.cells #[sv] 27))) := btr Hb9.out (bal _ _)
        have HLG10 : Hid (LG (w9.alloc (.cells #[sv] 27)) g gcap ss) := HLG.out.below (btr HWe.out HB10.out)
        have hE10 : Hid (Ells (w9.alloc (.cells #[sv] 27)) W.heap.size (ss ++ [sv]) (tnL O Z B RL xs (y + 1))) := by
          unfold Hid
          rw [HTn.out]
          exact ((HEl.out.below HWe.out).add Hb9.out HO9.out (Nat.le_trans SR.out.size HWe.out.size)).below (bal _ _)
        have S10 : Hid (St W (w9.alloc (.cells #[sv] 27)) ((bf, #[.int .i64 0, .int .i64 0, .int .i64 0], 32) :: (gs, curs, 23) :: (W.heap.size + 1, #[.int .i64 0, .int .i64 0, .int .i64 0], 32) :: (W.heap.size, #[.int .i64 h, .int .i64 w, .int .i64 c, .int .i64 lo, .int .i64 hi, .slice (some x) on oc, .int .i64 ot], 26) :: [])) := (SR.out.call HWe.out).call HB10.out
        have hnw : Hid ((w9.alloc (.cells #[sv] 27)).heap[w9.heap.size]? = some (.cells #[sv] 27 (0, 0))) := heap_alloc_new w9 _
        have HB11 : Hid (Below w7.heap.size w7 (w9.alloc (.cells #[sv] 27))) := btr HBe.out HB10.out
        obtain ⟨w10, hw10⟩ : ∃ w10, w9.alloc (.cells #[sv] 27) = w10 := ⟨_, rfl⟩
        rw [hw10] at HB10 HLG10 hE10 S10 hnw HB11 ⊢
        clear hw10
        refine stepG 20 (HCl.out _ HB11.out) (by kernel_rfl) rfl rfl (.tmp 53) (.tmp 72) rfl W.heap.size g gcap ss (y + 1) HSL.out hgW.out Hgm.out (by kernel_rfl) w9.heap.size sv (by kernel_rfl) hnw.out hone HLG10.out (by omega) S10.out.size ?_
        intro v11 w11 hOR11 hgr
        have S11 : Hid (St W w11 ((bf, #[.int .i64 0, .int .i64 0, .int .i64 0], 32) :: (gs, curs, 23) :: (W.heap.size + 1, #[.int .i64 0, .int .i64 0, .int .i64 0], 32) :: (W.heap.size, #[.int .i64 h, .int .i64 w, .int .i64 c, .int .i64 lo, .int .i64 hi, .slice (some x) on oc, .int .i64 ot], 26) :: [])) := hgr.st S10.out HLG10.out hgW.out (by simp)
        have hE11 : Hid (Ells w11 W.heap.size (ss ++ [sv]) (tnL O Z B RL xs (y + 1))) := hgr.ells hE10.out HLG10.out
        have HOR11 : Hid (ORs w11 W.heap.size v11 (ss ++ [sv])) := hOR11
        have hC11 : w11.heap[ob]? = some (.cells #[.int .i64 (O y 0), .int .i64 (O y 1), .int .i64 (O y 2), .int .i64 (O y 3), .int .i64 (O y 4), .int .i64 (O y 5), .int .i64 (O y 6), .int .i64 (O y 7), .int .i64 (O y 8), .int .i64 (O y 9), .int .i64 (O y 10), .int .i64 (O y 11), .slice wa lw cw, .slice ba lb cb, .int .i64 (O y 14), .int .i64 (O y 15), .int .i64 (O y 16), .int .i64 (O y 17), .int .i64 (O y 18), .int .i64 (O y 19), .int .i64 (O y 20), .int .i64 (O y 21)] 49 (0, 0)) ∧ w11.heap[gs]? = some (.cells curs 23 (0, 0)) ∧ w11.cell? ⟨g, ja, none⟩ = some (.slice aa na ca) :=
          ⟨hgr.heap HLG10.out (HCl.out _ HB11.out).1 (by decide), hgr.heap HLG10.out (HCl.out _ HB11.out).2.1 (by decide), hgr.cell (HCl.out _ HB11.out).2.2 (fun e => by simp only [Addr.mk.injEq, true_and, and_true] at e; omega)⟩
        clear HLG10 hE10 S10 HCl hgr hOR11
        refine stepR 21 hC11 (by kernel_rfl) rfl rfl v11 w11 (by kernel_rfl) ?_
        refine doneC hC11 (by kernel_rfl) ?_ _
        clear hC11
        go_wp2
        go_roundw
        case rel => exact ⟨y + 1, ss ++ [sv], _, rfl, by omega, by go_num, by rw [List.length_append, HSL.out]; rfl, HOR11.out, hE11.out, S11.out⟩
        case measure => simp [intOf]; omega
    · obtain rfl : y = on := by omega
      have hLL : Hid (LLs wr W.heap.size (.slice (some ⟨g, 0, none⟩) (y + 1) gcap) (tnL O Z B RL xs y)) := ⟨ss, HOR.out, HEl.out⟩
      obtain ⟨-, -, -, -, -, -, c3, f3, z3, -⟩ := SR.out.rules
      have hb3 := SR.out.below
      have SR3 := SR.out.up2
      have HLs : Hid (∀ u v t, LLs (((wr.setCell ⟨W.heap.size + 1, 0, none⟩ u).setCell ⟨W.heap.size + 1, 1, none⟩ v).setCell ⟨W.heap.size + 1, 2, none⟩ t) W.heap.size (.slice (some ⟨g, 0, none⟩) (y + 1) gcap) (tnL O Z B RL xs y)) := fun u v t => ((hLL.out.set SR3.h1 (by decide) (by decide)).set (heap_setCell_at SR3.h1) (by decide) (by decide)).set (heap_setCell_at (heap_setCell_at SR3.h1)) (by decide) (by decide)
      clear HLG HEl HOR
      go_wp2
      exact bodyPost_ret (v := .tuple #[.slice (some ⟨g, 0, none⟩) (y + 1) gcap, .agg #[.int .i64 0, .int .i64 0, .int .i64 0]]) (by simp [results, Tryz.results6, go_sem, *]) rfl ⟨⟨_, rfl, HLs.out _ _ _⟩, set3b hb3 (by omega)⟩
end Go.Proofs.YtmcdpbnpnifdfaaGreat
