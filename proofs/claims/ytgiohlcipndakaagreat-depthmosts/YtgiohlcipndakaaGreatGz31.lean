/- What the document's Narrow of layer 13 and safe of layer 18 return. What the document's Safe, Most and Choose of layer 18 return. -/
import Derived.Test.YtgiohlcipndakaaGreatGz29
import Derived.Test.YtgiohlcipndakaaGreatGz30
/- What the document's Narrow of layer 13 and safe of layer 18 return. -/
namespace Go.Proofs.YtgiohlcipndakaaGreat
open Go.Value renaming int → U
open Go.IntKind renaming i64 → i6
set_option maxRecDepth 100000
set_option maxHeartbeats 16000000
open Go.ChangeShapes Go.WideShapes Go.ChangeAt Go.RowKit
set_option linter.unusedVariables false
theorem rretB {x y : Bool} (h : x = y) : Ending.returned (.bool x) = .returned (.bool y) := by rw [h]
theorem rnar_16 (a b : Int) (W : World) : Calls Tryz.prog 32 #[.agg #[U i6 a, U i6 b], U i6 16] W fun e w' => e = .returned (.bool (wiB (-32768) 32767 a b)) ∧ Below W.heap.size W w' := by
 have s0 := (St.start W).new (c := #[U i6 a, U i6 b]) (t := 28)
 by_cases h1 : -32768 ≤ a
 ·have HR : Hid (decide (b < 32768) = wiB (-32768) 32767 a b) := by
   unfold Hid wiB
   by_cases h2 : b < 32768
   ·rw [decide_eq_true h2, decide_eq_true ⟨h1, by omega⟩]
   ·rw [decide_eq_false h2, decide_eq_false (by omega)]
  go_enter Tryz.func32, Tryz.ntmps32
  go_wp2
  go_ret
  exact ⟨rretB HR.out, s0.below⟩
 ·have HR : Hid (false = wiB (-32768) 32767 a b) := by unfold Hid wiB; rw [decide_eq_false (by omega)]
  go_enter Tryz.func32, Tryz.ntmps32
  go_wp2
  go_ret
  exact ⟨rretB HR.out, s0.below⟩
theorem rnar_32 (a b : Int) (W : World) : Calls Tryz.prog 32 #[.agg #[U i6 a, U i6 b], U i6 32] W fun e w' => e = .returned (.bool (wiB (-2147483648) 2147483647 a b)) ∧ Below W.heap.size W w' := by
 have s0 := (St.start W).new (c := #[U i6 a, U i6 b]) (t := 28)
 by_cases h1 : -2147483648 ≤ a
 ·have HR : Hid (decide (b < 2147483648) = wiB (-2147483648) 2147483647 a b) := by
   unfold Hid wiB
   by_cases h2 : b < 2147483648
   ·rw [decide_eq_true h2, decide_eq_true ⟨h1, by omega⟩]
   ·rw [decide_eq_false h2, decide_eq_false (by omega)]
  go_enter Tryz.func32, Tryz.ntmps32
  go_wp2
  go_ret
  exact ⟨rretB HR.out, s0.below⟩
 ·have HR : Hid (false = wiB (-2147483648) 2147483647 a b) := by unfold Hid wiB; rw [decide_eq_false (by omega)]
  go_enter Tryz.func32, Tryz.ntmps32
  go_wp2
  go_ret
  exact ⟨rretB HR.out, s0.below⟩
theorem RwU.below {w w' : World} {lo : Nat} {v : Value} {R : Nat → List (Int × Int)} {N : Nat} {us : List Value} (h : RwU w lo v R N us) (g : Below w.heap.size w w') : RwU w' lo v R N us := by
 obtain ⟨h1, h2, h3⟩ := h
 refine ⟨h1, World.ownsRow.kept h2 (row := none) ⟨g.os, g.tape, g.output, g.size, fun i hi _ => g.block i hi⟩ ?_, fun j hj => (h3 j hj).below g⟩
 cases e : v.ownBlock with
 | none => exact .inl rfl
 | some b => exact .inr (by simp)
def okI (d : Nat) (E : List (Int × Int)) (j : Nat) : Prop := ∀ i, i < j → w16 (psm d E i) = true ∧ w16 (E.getD i (0, 0)) = true
def okR (d : Nat) (R : Nat → List (Int × Int)) (k : Nat) : Prop := ∀ y, y < k → okI d (R y) (R y).length
theorem okI_0 (d : Nat) (E : List (Int × Int)) : okI d E 0 := fun i h => absurd h (by omega)
theorem okR_0 (d : Nat) (R : Nat → List (Int × Int)) : okR d R 0 := fun i h => absurd h (by omega)
theorem okI_succ {d : Nat} {E : List (Int × Int)} {j : Nat} (h : okI d E j) (g1 : w16 (psm d E j) = true) (g2 : w16 (E.getD j (0, 0)) = true) : okI d E (j + 1) := fun i hi => by
 by_cases q : i = j
 ·subst q; exact ⟨g1, g2⟩
 ·exact h i (by omega)
theorem okR_succ {d : Nat} {R : Nat → List (Int × Int)} {k : Nat} (h : okR d R k) (g : okI d (R k) (R k).length) : okR d R (k + 1) := fun y hy => by
 by_cases q : y = k
 ·subst q; exact g
 ·exact h y (by omega)
theorem ok_all {d : Nat} (hd : 0 < d) {R : Nat → List (Int × Int)} {N : Nat} (hN : 0 < N) (h0 : 0 < (R 0).length) (h : okR d R N) : w16 (hbD d R N) = true := by
 have hne : piT (fun E => paL d E ++ E) R N ≠ [] := fun e => by
  have : (R 0).getD 0 (0, 0) ∈ piT (fun E => paL d E ++ E) R N := mem_piT.2 ⟨0, hN, List.mem_append_right _ (by rw [List.getD_eq_getElem?_getD, List.getElem?_eq_getElem h0]; exact List.getElem_mem _)⟩
  rw [e] at this; cases this
 have key : ∀ x ∈ piT (fun E => paL d E ++ E) R N, w16 x = true := fun x hx => by
  obtain ⟨y, hy, hx'⟩ := mem_piT.1 hx
  rcases List.mem_append.1 hx' with q | q
  ·obtain ⟨i, hi, rfl⟩ := (mem_paL hd).1 q
   exact (h y hy i hi).1
  ·obtain ⟨i, hi, rfl⟩ := List.mem_iff_getElem.1 q
   have := (h y hy i hi).2
   rwa [List.getD_eq_getElem?_getD, List.getElem?_eq_getElem hi] at this
 obtain ⟨-, ⟨x, hx, ex⟩, ⟨y, hy, ey⟩⟩ := huA_is hne
 have k1 := of_decide_eq_true (key x hx)
 have k2 := of_decide_eq_true (key y hy)
 show w16 (huA _) = true
 exact decide_eq_true ⟨by omega, by omega⟩
theorem no_psm {d : Nat} (hd : 0 < d) {R : Nat → List (Int × Int)} {N y j : Nat} (hy : y < N) (hj : j < (R y).length) (h : w16 (psm d (R y) j) = false) : false = w16 (hbD d R N) := by
 cases q : w16 (hbD d R N) with
 | false => rfl
 | true =>
  have hx : psm d (R y) j ∈ piT (fun E => paL d E ++ E) R N := mem_piT.2 ⟨y, hy, List.mem_append_left _ ((mem_paL hd).2 ⟨j, hj, rfl⟩)⟩
  have := w16_in (hul_has hx) q
  rw [h] at this; cases this
theorem no_end {d : Nat} {R : Nat → List (Int × Int)} {N y j : Nat} (hy : y < N) (hj : j < (R y).length) (h : w16 ((R y).getD j (0, 0)) = false) : false = w16 (hbD d R N) := by
 cases q : w16 (hbD d R N) with
 | false => rfl
 | true =>
  have hm : (R y).getD j (0, 0) ∈ R y := by rw [List.getD_eq_getElem?_getD, List.getElem?_eq_getElem hj]; exact List.getElem_mem _
  have hx : (R y).getD j (0, 0) ∈ piT (fun E => paL d E ++ E) R N := mem_piT.2 ⟨y, hy, List.mem_append_right _ hm⟩
  have := w16_in (hul_has hx) q
  rw [h] at this; cases this
theorem rsaf_any (lo : Nat) (v : Value) (R : Nat → List (Int × Int)) (N : Nat) (us : List Value) (W : World) (hU : RwU W lo v R N us) (hN : N ≤ 10000000) (hN0 : 0 < N) (hR : ∀ j, Rb (R j) ∧ (R j).length ≤ 512) (h00 : 0 < (R 0).length) (d : Nat) (hd : 0 < d) (hd2 : d ≤ 512) :
  Calls Tryz.prog 22 #[v, U i6 (d : Int)] W fun e w' => e = .returned (.bool (w16 (hbD d R N))) ∧ Below W.heap.size W w' := by
 obtain ⟨X, hX⟩ : ∃ X, w16 (hbD d R N) = X := ⟨_, rfl⟩
 have HAll : Hid (okR d R N → X = true) := fun q => by rw [← hX]; exact ok_all hd hN0 h00 q
 have HNo1 : Hid (∀ y j, y < N → j < (R y).length → w16 (psm d (R y) j) = false → false = X) := fun y j h1 h2 h3 => by rw [← hX]; exact no_psm hd h1 h2 h3
 have HNo2 : Hid (∀ y j, y < N → j < (R y).length → w16 ((R y).getD j (0, 0)) = false → false = X) := fun y j h1 h2 h3 => by rw [← hX]; exact no_end h1 h2 h3
 have HV : Hid (∀ k j, Vd 10000000000 (psT d (R k) j)) := fun k j => psT_vd (hR k).1 (hR k).2 j
 have HE : Hid (∀ k j, j < (R k).length → Vd 10000000000 ((R k).getD j (0, 0))) := fun k j hj => by
  rw [List.getD_eq_getElem?_getD, List.getElem?_eq_getElem hj]
  exact (hR k).1.vd _ (List.getElem_mem _)
 have HLn : Hid (∀ k, (R k).length ≤ 512) := fun k => (hR k).2
 have RO : Hid (RwU W lo v R N us) := hU
 obtain ⟨g, cap, e0, -, hc1, hc2⟩ := hU.at hN0
 subst e0
 rw [hX]
 clear hU hR h00 hX hc2
 go_enter Tryz.func22, Tryz.ntmps22
 go_wp2
 go_loopw [12] (fun i wr => ∃ k' : Nat, k' ≤ N ∧ i = U i6 k' ∧ Below W.heap.size W wr ∧ okR d R k') (fun i _ => N - (intOf i).toNat)
 case atStart => exact ⟨0, Nat.zero_le _, rfl, Below.refl _ _, okR_0 d R⟩
 case round =>
  obtain ⟨y, hy, rfl, hb, hok⟩ := hrel
  have HB : Hid (Below W.heap.size W wr) := hb
  have HOk : Hid (okR d R y) := hok
  by_cases hlt : y < N
  ·obtain ⟨g', cap', e0, hcu, hc1', hc2'⟩ := (RO.out.below hb).at hlt
   have e1 : g = g' := by have := (Value.slice.inj e0).1; simpa using this
   subst e1
   have hou := (RO.out.below hb).2.2 y hlt
   have HOy : Hid (∀ w', Below W.heap.size W w' → OSp w' lo (us.getD y undef) (R y)) := fun w' hm' => (RO.out.below hm').2.2 y hlt
   obtain ⟨u, hu0⟩ : ∃ u, us.getD y undef = u := ⟨_, rfl⟩
   rw [hu0] at hcu hou HOy
   obtain ⟨M, hM⟩ : ∃ M, (R y).length = M := ⟨_, rfl⟩
   have HM : Hid ((R y).length = M) := hM
   obtain ⟨ua, uc, hue⟩ := hou.slice
   rw [hM] at hue
   subst hue
   have hM5 : M ≤ 512 := by rw [← hM]; exact HLn.out y
   have s7 := ((St.start W).call hb).new (c := #[U i6 0, U i6 0]) (t := 28)
   have hzr := hb.size
   clear hou hM hb hok hc1' hc2' hu0 e0
   go_upto_region 5 with fail
   obtain ⟨Bs, hBs⟩ : ∃ B, wr.heap.size = B := ⟨_, rfl⟩
   obtain ⟨w7, hw7⟩ : ∃ w7, wr.alloc (.cells #[U i6 0, U i6 0] 28) = w7 := ⟨_, rfl⟩
   rw [hw7, hBs] at s7
   rw [hw7, hBs]
   rw [hBs] at hzr
   have S7 : Hid (St W w7 [(Bs, #[U i6 0, U i6 0], 28)]) := s7
   clear hw7 hBs s7 HB hcu
   go_wp2
   go_loopw [18] (fun i w' => ∃ j : Nat, j ≤ M ∧ i = U i6 j ∧ St W w' [(Bs, #[U i6 (psT d (R y) j).1, U i6 (psT d (R y) j).2], 28)] ∧ okI d (R y) j) (fun i _ => M - (intOf i).toNat)
   case atStart => exact ⟨0, Nat.zero_le _, rfl, by simpa [psT] using S7.out, okI_0 _ _⟩
   case round =>
    obtain ⟨j, hj, rfl, s, hoi⟩ := hrel
    clear S7
    have HOI : Hid (okI d (R y) j) := hoi
    clear hoi
    by_cases hjl : j < M
    ·have hsp := (HOy.out wr s.below).sv
     have hjL : j < (R y).length := by rw [HM.out]; exact hjl
     have hve := HE.out y j hjL
     have hvm := HV.out y j
     obtain ⟨a9, c9, e9, -, -, h9⟩ := hsp
     obtain ⟨g9, o9, hg9, hc9⟩ := h9 (by omega)
     have e10 : ua = some ⟨g9, o9, none⟩ := by rw [(Value.slice.inj e9).1]; exact hg9
     subst e10
     obtain ⟨q1, q2⟩ := SpV.at hc9 hjL
     obtain ⟨e1, e2, he⟩ : ∃ e1 e2, (R y).getD j (0, 0) = (e1, e2) := ⟨_, _, rfl⟩
     have HPT : Hid (psT d (R y) (j + 1) = psm d (R y) j) := psT_succ _ _ _
     have hdm : Int.tmod (j : Int) (d : Int) = ((j % d : Nat) : Int) := by rw [Int.tmod_eq_emod_of_nonneg (by omega)]; rfl
     have hd0 : ¬ (d : Int) = 0 := by omega
     obtain ⟨r, hr⟩ : ∃ r, j % d = r := ⟨_, rfl⟩
     rw [hr] at hdm
     have hrl : r < d := by rw [← hr]; exact Nat.mod_lt _ hd
     have hj5 : j < 512 := by omega
     rw [he] at q1 q2 hve
     simp only at q1 q2
     have HN1 : Hid (w16 (psm d (R y) j) = false → false = X) := HNo1.out y j hlt hjL
     have HN2 : Hid (w16 (e1, e2) = false → false = X) := fun q => HNo2.out y j hlt hjL (by rw [he]; exact q)
     have HSc : Hid (w16 (psm d (R y) j) = true → w16 (e1, e2) = true → okI d (R y) (j + 1)) := fun g1 g2 => okI_succ HOI.out g1 (by rw [he]; exact g2)
     clear e9 h9 hg9 hc9 HOI
     obtain ⟨c1, f1, z1, -⟩ := s.rules
     have s8n := s.new (c := #[U i6 e1, U i6 e2]) (t := 28)
     have hBsr := lt_of_heap s.h1
     go_upto_region 8 with fail
     obtain ⟨Be, hBe⟩ : ∃ B, wr.heap.size = B := ⟨_, rfl⟩
     obtain ⟨w8, hw8⟩ : ∃ w8, wr.alloc (.cells #[U i6 e1, U i6 e2] 28) = w8 := ⟨_, rfl⟩
     rw [hw8, hBe] at s8n
     rw [hw8, hBe]
     rw [hBe] at hBsr
     have S8 : Hid (St W w8 [(Bs, #[U i6 (psT d (R y) j).1, U i6 (psT d (R y) j).2], 28), (Be, #[U i6 e1, U i6 e2], 28)]) := s8n.up1
     clear hw8 hBe s8n s c1 f1 z1 q1 q2
     by_cases hr0 : r = 0
     ·subst hr0
      have hps : psm d (R y) j = (0 + e1, 0 + e2) := psm_zero hd hjL hr he
      obtain ⟨m1, hm1⟩ : ∃ m : Int, m = 0 := ⟨_, rfl⟩
      obtain ⟨m2, hm2⟩ : ∃ m : Int, m = 0 := ⟨_, rfl⟩
      have s9 := S8.out.set2 (u := U i6 0) (v := U i6 0) (by simp; omega)
      obtain ⟨c1, f1, z1, -⟩ := S8.out.rules
      have hvm : Vd 10000000000 ((m1, m2) : Int × Int) := by rw [hm1, hm2]; unfold Vd; simp
      clear he hr HV HE
      go_upto_region 10 with fail
      obtain ⟨w9, hw9⟩ : ∃ w9, (w8.setCell ⟨Bs, 0, none⟩ (U i6 0)).setCell ⟨Bs, 1, none⟩ (U i6 0) = w9 := ⟨_, rfl⟩
      rw [hw9] at s9 ⊢
      have S9 : Hid (St W w9 [(Bs, #[U i6 m1, U i6 m2], 28), (Be, #[U i6 e1, U i6 e2], 28)]) := by unfold Hid; rw [hm1, hm2]; exact s9
      rw [show (0 : Int) + e1 = m1 + e1 by rw [hm1], show (0 : Int) + e2 = m2 + e2 by rw [hm2]] at hps
      clear hw9 s9 S8 c1 f1 z1 hm1 hm2
      have HP1 : Hid (∀ w, _) := fun w => rnar_16 (m1 + e1) (m2 + e2) w
      have HP2 : Hid (∀ w, _) := fun w => rnar_16 e1 e2 w
      unfold Vd at hve hvm
      simp only at hve hvm
      have hw1 : IntKind.i64.wrap (m1 + e1) = m1 + e1 := by rw [IntKind.wrap_i64]; omega
      have hw2 : IntKind.i64.wrap (m2 + e2) = m2 + e2 := by rw [IntKind.wrap_i64]; omega
      have HPT2 : Hid (psT d (R y) (j + 1) = (m1 + e1, m2 + e2)) := by unfold Hid; rw [HPT.out, hps]
      rw [hps] at HN1 HSc
      obtain ⟨c1, f1, z1, c2, f2, z2, -⟩ := S9.out.rules
      have s10 := S9.out.set2 (u := U i6 (m1 + e1)) (v := U i6 (m2 + e2)) (by simp; omega)
      have S10 : Hid (St W _ _) := s10
      clear hps HPT S9 s10
      obtain ⟨b1, hb1⟩ : ∃ b, wiB (-32768) 32767 (m1 + e1) (m2 + e2) = b := ⟨_, rfl⟩
      obtain ⟨b2, hb2⟩ : ∃ b, wiB (-32768) 32767 e1 e2 = b := ⟨_, rfl⟩
      rw [hb1] at HP1
      rw [hb2] at HP2
      have HN1' : Hid (b1 = false → false = X) := fun q => HN1.out (by show wiB _ _ _ _ = false; rw [hb1]; exact q)
      have HN2' : Hid (b2 = false → false = X) := fun q => HN2.out (by show wiB _ _ _ _ = false; rw [hb2]; exact q)
      have HSc' : Hid (b1 = true → b2 = true → okI d (R y) (j + 1)) := fun g1 g2 => HSc.out (by show wiB _ _ _ _ = true; rw [hb1]; exact g1) (by show wiB _ _ _ _ = true; rw [hb2]; exact g2)
      clear hb1 hb2 HN1 HN2 HSc hve hvm
      cases b1 with
      | false =>
       have hf : Hid (false = X) := HN1'.out rfl
       clear HN1' HN2' HSc'
       go_wp2_with fail
       refine (HP1.out _).mono ?_
       rintro e w11 ⟨rfl, hb⟩
       have HB2 : Hid (Below W.heap.size W w11) := (S10.out.call hb).below
       clear hb S10 HP1 HP2 c1 f1 z1 c2 f2 z2
       go_wp2
       go_ret
       exact ⟨rretB hf.out, HB2.out⟩
      | true =>
       have HSd : Hid (b2 = true → okI d (R y) (j + 1)) := HSc'.out rfl
       clear HSc'
       go_wp2_with fail
       refine (HP1.out _).mono ?_
       rintro e w11 ⟨rfl, hb⟩
       have s11 := S10.out.call hb
       clear hb S10 HP1 c1 f1 z1 c2 f2 z2
       obtain ⟨c1, f1, z1, c2, f2, z2, -⟩ := s11.rules
       have S11 : Hid (St W w11 _) := s11
       clear s11 c1 f1
       cases b2 with
       | false =>
        have hf : Hid (false = X) := HN2'.out rfl
        clear HN1' HN2' HSd
        go_wp2_with fail
        refine (HP2.out _).mono ?_
        rintro e w12 ⟨rfl, hb⟩
        have HB2 : Hid (Below W.heap.size W w12) := (S11.out.call hb).below
        clear hb S11 HP2 z1 c2 f2 z2
        go_wp2
        go_ret
        exact ⟨rretB hf.out, HB2.out⟩
       | true =>
        have hsc : Hid (okI d (R y) (j + 1)) := HSd.out rfl
        clear HN1' HN2' HSd
        go_wp2_with fail
        refine (HP2.out _).mono ?_
        rintro e w12 ⟨rfl, hb⟩
        have S12 : Hid (St W w12 [(Bs, #[U i6 (m1 + e1), U i6 (m2 + e2)], 28)]) := (S11.out.call hb).sub (fun x hx => by simp only [List.mem_cons, List.not_mem_nil, or_false] at hx ⊢; exact .inl hx)
        clear hb S11 HP2 z1 c2 f2 z2 hw1 hw2
        go_wp2
        go_roundw
        case rel => exact ⟨j + 1, by omega, by go_num, by rw [HPT2.out]; exact S12.out, hsc.out⟩
        case measure => simp [intOf]; omega
     ·have hps0 : psm d (R y) j = plS (psT d (R y) j) (e1, e2) := psm_more hd hjL (by rw [hr]; exact hr0) he
      obtain ⟨m1, m2, hmm⟩ : ∃ m1 m2, psT d (R y) j = (m1, m2) := ⟨_, _, rfl⟩
      have hps : psm d (R y) j = (m1 + e1, m2 + e2) := by rw [hps0, hmm]; rfl
      have hr1 : ((r : Int) == 0) = false := by simp; omega
      rw [hmm] at hvm
      have S9 : Hid (St W w8 [(Bs, #[U i6 m1, U i6 m2], 28), (Be, #[U i6 e1, U i6 e2], 28)]) := by have q := S8.out; rw [hmm] at q; exact q
      clear he hr HV HE hps0 hmm S8
      go_upto_region 10 with fail
      have HP1 : Hid (∀ w, _) := fun w => rnar_16 (m1 + e1) (m2 + e2) w
      have HP2 : Hid (∀ w, _) := fun w => rnar_16 e1 e2 w
      unfold Vd at hve hvm
      simp only at hve hvm
      have hw1 : IntKind.i64.wrap (m1 + e1) = m1 + e1 := by rw [IntKind.wrap_i64]; omega
      have hw2 : IntKind.i64.wrap (m2 + e2) = m2 + e2 := by rw [IntKind.wrap_i64]; omega
      have HPT2 : Hid (psT d (R y) (j + 1) = (m1 + e1, m2 + e2)) := by unfold Hid; rw [HPT.out, hps]
      rw [hps] at HN1 HSc
      obtain ⟨c1, f1, z1, c2, f2, z2, -⟩ := S9.out.rules
      have s10 := S9.out.set2 (u := U i6 (m1 + e1)) (v := U i6 (m2 + e2)) (by simp; omega)
      have S10 : Hid (St W _ _) := s10
      clear hps HPT S9 s10
      obtain ⟨b1, hb1⟩ : ∃ b, wiB (-32768) 32767 (m1 + e1) (m2 + e2) = b := ⟨_, rfl⟩
      obtain ⟨b2, hb2⟩ : ∃ b, wiB (-32768) 32767 e1 e2 = b := ⟨_, rfl⟩
      rw [hb1] at HP1
      rw [hb2] at HP2
      have HN1' : Hid (b1 = false → false = X) := fun q => HN1.out (by show wiB _ _ _ _ = false; rw [hb1]; exact q)
      have HN2' : Hid (b2 = false → false = X) := fun q => HN2.out (by show wiB _ _ _ _ = false; rw [hb2]; exact q)
      have HSc' : Hid (b1 = true → b2 = true → okI d (R y) (j + 1)) := fun g1 g2 => HSc.out (by show wiB _ _ _ _ = true; rw [hb1]; exact g1) (by show wiB _ _ _ _ = true; rw [hb2]; exact g2)
      clear hb1 hb2 HN1 HN2 HSc hve hvm
      cases b1 with
      | false =>
       have hf : Hid (false = X) := HN1'.out rfl
       clear HN1' HN2' HSc'
       go_wp2_with fail
       refine (HP1.out _).mono ?_
       rintro e w11 ⟨rfl, hb⟩
       have HB2 : Hid (Below W.heap.size W w11) := (S10.out.call hb).below
       clear hb S10 HP1 HP2 c1 f1 z1 c2 f2 z2
       go_wp2
       go_ret
       exact ⟨rretB hf.out, HB2.out⟩
      | true =>
       have HSd : Hid (b2 = true → okI d (R y) (j + 1)) := HSc'.out rfl
       clear HSc'
       go_wp2_with fail
       refine (HP1.out _).mono ?_
       rintro e w11 ⟨rfl, hb⟩
       have s11 := S10.out.call hb
       clear hb S10 HP1 c1 f1 z1 c2 f2 z2
       obtain ⟨c1, f1, z1, c2, f2, z2, -⟩ := s11.rules
       have S11 : Hid (St W w11 _) := s11
       clear s11 c1 f1
       cases b2 with
       | false =>
        have hf : Hid (false = X) := HN2'.out rfl
        clear HN1' HN2' HSd
        go_wp2_with fail
        refine (HP2.out _).mono ?_
        rintro e w12 ⟨rfl, hb⟩
        have HB2 : Hid (Below W.heap.size W w12) := (S11.out.call hb).below
        clear hb S11 HP2 z1 c2 f2 z2
        go_wp2
        go_ret
        exact ⟨rretB hf.out, HB2.out⟩
       | true =>
        have hsc : Hid (okI d (R y) (j + 1)) := HSd.out rfl
        clear HN1' HN2' HSd
        go_wp2_with fail
        refine (HP2.out _).mono ?_
        rintro e w12 ⟨rfl, hb⟩
        have S12 : Hid (St W w12 [(Bs, #[U i6 (m1 + e1), U i6 (m2 + e2)], 28)]) := (S11.out.call hb).sub (fun x hx => by simp only [List.mem_cons, List.not_mem_nil, or_false] at hx ⊢; exact .inl hx)
        clear hb S11 HP2 z1 c2 f2 z2 hw1 hw2
        go_wp2
        go_roundw
        case rel => exact ⟨j + 1, by omega, by go_num, by rw [HPT2.out]; exact S12.out, hsc.out⟩
        case measure => simp [intOf]; omega
    ·obtain rfl : j = M := by omega
     have hok2 : Hid (okR d R (y + 1)) := okR_succ HOk.out (by have q := HOI.out; rwa [← HM.out] at q)
     have HBr : Hid (Below W.heap.size W wr) := s.below
     clear s HOI HOk
     go_wp2
     go_roundw
     case rel => exact ⟨y + 1, by omega, by go_num, HBr.out, hok2.out⟩
     case measure => simp [intOf]; omega
  ·obtain rfl : y = N := by omega
   have HT : Hid (X = true) := HAll.out hok
   clear hb hok
   go_wp2
   go_ret
   exact ⟨rretB HT.out.symm, HB.out⟩
theorem rsfe_any (k a b m kh kw sh sw tp lf bt rt : Int) (wa : Option Addr) (lw wc : Nat) (ba : Option Addr) (lb bc : Nat) (sm ss um us z p lo hi h w c H V C : Int) (W : World) (ch slo shi : Int) (R : Nat → List (Int × Int)) (M : Nat) (hM : M ≤ 10000000) (hM0 : 0 < M) (h00 : 0 < (R 0).length) (hR : ∀ j, Rb (R j) ∧ (R j).length ≤ 512) (hRw : ∀ W', Below W.heap.size W W' → Calls Tryz.prog 23 #[.agg #[U i6 k, U i6 a, U i6 b, U i6 m, U i6 kh, U i6 kw, U i6 sh, U i6 sw, U i6 tp, U i6 lf, U i6 bt, U i6 rt, .slice wa lw wc, .slice ba lb bc, U i6 sm, U i6 ss, U i6 um, U i6 us, U i6 z, U i6 p, U i6 lo, U i6 hi, U i6 h, U i6 w, U i6 c, U i6 H, U i6 V, U i6 C], U i6 ch, .agg #[U i6 slo, U i6 shi]] W' fun e w' => (∃ v, e = .returned v ∧ RwO w' W'.heap.size v R M) ∧ Below W'.heap.size W' w') (d : Nat) (hd : 0 < d) (hd2 : d ≤ 512) :
  Calls Tryz.prog 10 #[.agg #[U i6 k, U i6 a, U i6 b, U i6 m, U i6 kh, U i6 kw, U i6 sh, U i6 sw, U i6 tp, U i6 lf, U i6 bt, U i6 rt, .slice wa lw wc, .slice ba lb bc, U i6 sm, U i6 ss, U i6 um, U i6 us, U i6 z, U i6 p, U i6 lo, U i6 hi, U i6 h, U i6 w, U i6 c, U i6 H, U i6 V, U i6 C], U i6 ch, .agg #[U i6 slo, U i6 shi], U i6 (d : Int)] W fun e w' => e = .returned (.bool (w16 (hbD d R M))) ∧ Below W.heap.size W w' := by
 have HRw : Hid (∀ W', Below W.heap.size W W' → _) := hRw
 have HS : Hid (∀ (lo' : Nat) (v : Value) (us' : List Value) (W' : World), RwU W' lo' v R M us' → _) := fun lo' v us' W' q => rsaf_any lo' v R M us' W' q hM hM0 hR h00 d hd hd2
 obtain ⟨X, hX⟩ : ∃ X, w16 (hbD d R M) = X := ⟨_, rfl⟩
 rw [hX] at HS ⊢
 have s0 := ((St.start W).new (c := #[U i6 k, U i6 a, U i6 b, U i6 m, U i6 kh, U i6 kw, U i6 sh, U i6 sw, U i6 tp, U i6 lf, U i6 bt, U i6 rt, .slice wa lw wc, .slice ba lb bc, U i6 sm, U i6 ss, U i6 um, U i6 us, U i6 z, U i6 p, U i6 lo, U i6 hi, U i6 h, U i6 w, U i6 c, U i6 H, U i6 V, U i6 C]) (t := 45)).new (c := #[U i6 slo, U i6 shi]) (t := 28)
 simp only [World.size_alloc] at s0
 have S0 : Hid (St W _ _) := s0
 clear hRw hR s0 hX hM hM0 h00
 go_enter Tryz.func10, Tryz.ntmps10
 have h3 := S0.out.h2
 go_wp2_with (refine wpList_load_row rfl 45 (.tmp 4) rfl W.heap.size rfl 45 _ (0, 0) _ h3 Tryz.underlying45 rfl (by kernel_rfl) ?_)
 refine Calls.mono (HRw.out _ S0.out.below) ?_
 rintro e w5 ⟨⟨v, rfl, us', hus⟩, hb5⟩
 have S5 : Hid (St W w5 _) := S0.out.call hb5
 have HU : Hid (RwU w5 _ v R M us') := hus
 clear hus hb5 S0 h3 HRw
 go_wp2_with fail
 refine Calls.mono (HS.out _ _ _ _ HU.out) ?_
 rintro e w6 ⟨rfl, hb6⟩
 have HB : Hid (Below W.heap.size W w6) := (S5.out.call hb6).below
 clear hb6 S5 HU HS
 go_wp2
 go_ret
 exact ⟨rfl, HB.out⟩
theorem rmos_any (k a b m kh kw sh sw tp lf bt rt : Int) (wa : Option Addr) (lw wc : Nat) (ba : Option Addr) (lb bc : Nat) (sm ss um us z p lo hi h w c H V C : Int) (W : World) (ch slo shi : Int) (R : Nat → List (Int × Int)) (M : Nat) (hM : M ≤ 10000000) (hM0 : 0 < M) (h00 : 0 < (R 0).length) (hR : ∀ j, Rb (R j) ∧ (R j).length ≤ 512) (hRw : ∀ W', Below W.heap.size W W' → Calls Tryz.prog 23 #[.agg #[U i6 k, U i6 a, U i6 b, U i6 m, U i6 kh, U i6 kw, U i6 sh, U i6 sw, U i6 tp, U i6 lf, U i6 bt, U i6 rt, .slice wa lw wc, .slice ba lb bc, U i6 sm, U i6 ss, U i6 um, U i6 us, U i6 z, U i6 p, U i6 lo, U i6 hi, U i6 h, U i6 w, U i6 c, U i6 H, U i6 V, U i6 C], U i6 ch, .agg #[U i6 slo, U i6 shi]] W' fun e w' => (∃ v, e = .returned v ∧ RwO w' W'.heap.size v R M) ∧ Below W'.heap.size W' w') (L : Nat) (hL : L ≤ 512) (hLn : ∀ W', Below W.heap.size W W' → Calls Tryz.prog 8 #[.agg #[U i6 k, U i6 a, U i6 b, U i6 m, U i6 kh, U i6 kw, U i6 sh, U i6 sw, U i6 tp, U i6 lf, U i6 bt, U i6 rt, .slice wa lw wc, .slice ba lb bc, U i6 sm, U i6 ss, U i6 um, U i6 us, U i6 z, U i6 p, U i6 lo, U i6 hi, U i6 h, U i6 w, U i6 c, U i6 H, U i6 V, U i6 C]] W' fun e w' => e = .returned (U i6 (L : Int)) ∧ Below W'.heap.size W' w') :
  Calls Tryz.prog 12 #[.agg #[U i6 k, U i6 a, U i6 b, U i6 m, U i6 kh, U i6 kw, U i6 sh, U i6 sw, U i6 tp, U i6 lf, U i6 bt, U i6 rt, .slice wa lw wc, .slice ba lb bc, U i6 sm, U i6 ss, U i6 um, U i6 us, U i6 z, U i6 p, U i6 lo, U i6 hi, U i6 h, U i6 w, U i6 c, U i6 H, U i6 V, U i6 C], U i6 ch, .agg #[U i6 slo, U i6 shi]] W fun e w' => e = .returned (U i6 ((grN (sfD R M) L : Nat) : Int)) ∧ Below W.heap.size W w' := by
 have HRw : Hid (∀ W', Below W.heap.size W W' → _) := hRw
 have HLn : Hid (∀ W', Below W.heap.size W W' → _) := hLn
 have HS : Hid (∀ (d : Nat) (lo' : Nat) (v : Value) (us' : List Value) (W' : World), 0 < d → d ≤ 512 → RwU W' lo' v R M us' → _) := fun d lo' v us' W' q1 q2 q => rsaf_any lo' v R M us' W' q hM hM0 hR h00 d q1 q2
 have s0 := ((St.start W).new (c := #[U i6 k, U i6 a, U i6 b, U i6 m, U i6 kh, U i6 kw, U i6 sh, U i6 sw, U i6 tp, U i6 lf, U i6 bt, U i6 rt, .slice wa lw wc, .slice ba lb bc, U i6 sm, U i6 ss, U i6 um, U i6 us, U i6 z, U i6 p, U i6 lo, U i6 hi, U i6 h, U i6 w, U i6 c, U i6 H, U i6 V, U i6 C]) (t := 45)).new (c := #[U i6 slo, U i6 shi]) (t := 28)
 simp only [World.size_alloc] at s0
 have S0 : Hid (St W _ _) := s0
 obtain ⟨G, hG⟩ : ∃ G, grN (sfD R M) L = G := ⟨_, rfl⟩
 have HG : Hid (grN (sfD R M) L = G) := hG
 rw [hG]
 clear hRw hLn hR s0 hM hM0 h00 hG
 go_enter Tryz.func12, Tryz.ntmps12
 have h3 := S0.out.h2
 go_wp2_with (refine wpList_load_row rfl 45 (.tmp 3) rfl W.heap.size rfl 45 _ (0, 0) _ h3 Tryz.underlying45 rfl (by kernel_rfl) ?_)
 refine Calls.mono (HRw.out _ S0.out.below) ?_
 rintro e w5 ⟨⟨v, rfl, us', hus⟩, hb5⟩
 have S5 : Hid (St W w5 _) := S0.out.call hb5
 obtain ⟨lo', hlo⟩ : ∃ lo', RwU w5 lo' v R M us' := ⟨_, hus⟩
 have HU : Hid (RwU w5 lo' v R M us') := hlo
 clear hus hlo hb5 S0 h3 HRw
 have h3 := S5.out.h2
 go_wp2_with (refine wpList_load_row rfl 45 (.tmp 3) rfl W.heap.size rfl 45 _ (0, 0) _ h3 Tryz.underlying45 rfl (by kernel_rfl) ?_)
 refine Calls.mono (HLn.out _ S5.out.below) ?_
 rintro e w6 ⟨rfl, hb6⟩
 have HU6 : Hid (RwU w6 lo' v R M us') := HU.out.below hb6
 have HB6 : Hid (Below W.heap.size W w6) := (S5.out.call hb6).below
 have HZ : Hid (W.heap.size ≤ w6.heap.size) := (S5.out.call hb6).size
 clear hb6 S5 HU h3 HLn
 go_wp2
 go_loopw [8] (fun i wr => ∃ q : Nat, q ≤ L ∧ i = U i6 q ∧ grN (sfD R M) q = G ∧ Below w6.heap.size w6 wr) (fun i _ => (intOf i).toNat)
 case atStart => exact ⟨L, Nat.le_refl _, rfl, HG.out, Below.refl _ _⟩
 case round =>
  obtain ⟨q, hq, rfl, hg, hb⟩ := hrel
  have HBr : Hid (Below w6.heap.size w6 wr) := hb
  by_cases h0 : q = 0
  ·subst h0
   have HG0 : Hid (0 = G) := hg
   have HBW : Hid (Below W.heap.size W wr) := HB6.out.trans (hb.mono HZ.out)
   clear hg hb HBr
   go_wp2
   go_ret
   exact ⟨by rw [← HG0.out]; rfl, HBW.out⟩
  ·have HC : Hid _ := HS.out q lo' v us' wr (by omega) (by omega) (HU6.out.below hb)
   have hpos : (0 : Int) < (q : Int) := by omega
   have hgq : Hid (grN (sfD R M) q = G) := hg
   obtain ⟨n, rfl⟩ : ∃ n, q = n + 1 := ⟨q - 1, by omega⟩
   obtain ⟨bb, hbb⟩ : ∃ bb, w16 (hbD (n + 1) R M) = bb := ⟨_, rfl⟩
   have HSf : Hid (sfD R M (n + 1) = bb) := hbb
   rw [hbb] at HC
   clear hg hb hbb
   go_wp2_with fail
   refine Calls.mono HC.out ?_
   rintro e w7 ⟨rfl, hb7⟩
   have HB7 : Hid (Below w6.heap.size w6 w7) := HBr.out.trans (hb7.mono HBr.out.size)
   clear hb7 HC HBr
   cases bb with
   | true =>
    have HG1 : Hid (n + 1 = G) := by unfold Hid; rw [← hgq.out]; unfold grN; rw [if_pos HSf.out]
    have HBW : Hid (Below W.heap.size W w7) := HB6.out.trans (HB7.out.mono HZ.out)
    clear hgq HSf HB7
    go_wp2
    go_ret
    exact ⟨by rw [← HG1.out]; rfl, HBW.out⟩
   | false =>
    have HG1 : Hid (grN (sfD R M) n = G) := by unfold Hid; rw [← hgq.out]; conv => rhs; unfold grN; rw [HSf.out, if_neg (by decide)]
    have hw : wrap64 (((n + 1 : Nat) : Int) - 1) = (n : Int) := by unfold wrap64; omega
    clear hgq HSf
    go_wp2
    go_roundw
    case rel => exact ⟨n, by omega, by first | rfl | go_num, HG1.out, HB7.out⟩
    case measure => simp [intOf]
theorem rcho_n (k a b m kh kw sh sw tp lf bt rt : Int) (wa : Option Addr) (lw wc : Nat) (ba : Option Addr) (lb bc : Nat) (sm ss um us z p lo hi h w c H V C : Int) (W : World) (ch slo shi R1 R2 : Int) (hRn : ∀ W', Below W.heap.size W W' → Calls Tryz.prog 31 #[.agg #[U i6 k, U i6 a, U i6 b, U i6 m, U i6 kh, U i6 kw, U i6 sh, U i6 sw, U i6 tp, U i6 lf, U i6 bt, U i6 rt, .slice wa lw wc, .slice ba lb bc, U i6 sm, U i6 ss, U i6 um, U i6 us, U i6 z, U i6 p, U i6 lo, U i6 hi, U i6 h, U i6 w, U i6 c, U i6 H, U i6 V, U i6 C], U i6 ch, .agg #[U i6 slo, U i6 shi]] W' fun e w' => e = .returned (.agg #[U i6 R1, U i6 R2]) ∧ Below W'.heap.size W' w') (hn : wiB (-2147483648) 2147483647 R1 R2 = false) :
  Calls Tryz.prog 14 #[.agg #[U i6 k, U i6 a, U i6 b, U i6 m, U i6 kh, U i6 kw, U i6 sh, U i6 sw, U i6 tp, U i6 lf, U i6 bt, U i6 rt, .slice wa lw wc, .slice ba lb bc, U i6 sm, U i6 ss, U i6 um, U i6 us, U i6 z, U i6 p, U i6 lo, U i6 hi, U i6 h, U i6 w, U i6 c, U i6 H, U i6 V, U i6 C], U i6 ch, .agg #[U i6 slo, U i6 shi]] W fun e w' => e = .returned (.tuple #[.agg #[U i6 0, U i6 0, U i6 0, U i6 0, U i6 0, U i6 0], U i6 154]) ∧ Below W.heap.size W w' := by
 have HRn : Hid (∀ W', Below W.heap.size W W' → _) := hRn
 have HN : Hid (∀ W', _) := fun W' => rnar_32 R1 R2 W'
 rw [hn] at HN
 have s0 := (((St.start W).new (c := #[U i6 k, U i6 a, U i6 b, U i6 m, U i6 kh, U i6 kw, U i6 sh, U i6 sw, U i6 tp, U i6 lf, U i6 bt, U i6 rt, .slice wa lw wc, .slice ba lb bc, U i6 sm, U i6 ss, U i6 um, U i6 us, U i6 z, U i6 p, U i6 lo, U i6 hi, U i6 h, U i6 w, U i6 c, U i6 H, U i6 V, U i6 C]) (t := 45)).new (c := #[U i6 slo, U i6 shi]) (t := 28)).new (c := #[U i6 0, U i6 0, U i6 0, U i6 0, U i6 0, U i6 0]) (t := 30)
 simp only [World.size_alloc] at s0
 have S0 : Hid (St W _ _) := s0
 clear hRn hn s0
 go_enter Tryz.func14, Tryz.ntmps14
 have h3 := S0.out.h3
 go_wp2_with (refine wpList_load_row rfl 45 (.tmp 3) rfl W.heap.size rfl 45 _ (0, 0) _ h3 Tryz.underlying45 rfl (by kernel_rfl) ?_)
 refine Calls.mono (HRn.out _ S0.out.below) ?_
 rintro e w5 ⟨rfl, hb⟩
 have s5 := (S0.out.call hb).new (c := #[U i6 R1, U i6 R2]) (t := 28)
 have hz5 := lt_of_heap (S0.out.call hb).h1
 have S5 : Hid (St W _ _) := s5
 clear hb S0 h3 HRn
 obtain ⟨c1, f1, z1, -⟩ := s5.rules
 clear s5
 go_wp2_with fail
 refine Calls.mono (HN.out _) ?_
 rintro e w6 ⟨rfl, hb⟩
 have s6 := S5.out.call hb
 clear hb S5 HN c1 f1 z1
 obtain ⟨c1, f1, z1, c2, f2, z2, -⟩ := s6.rules
 have s7 := s6.tail.six (u0 := U i6 0) (u1 := U i6 0) (u2 := U i6 0) (u3 := U i6 0) (u4 := U i6 0) (u5 := U i6 0) (by simp; omega)
 obtain ⟨cF, -⟩ := s7.rules
 have HB : Hid (Below W.heap.size W _) := s7.below
 clear s6 s7 c1 f1 z1
 go_wp2
 exact bodyPost_ret (v := .tuple #[.agg #[U i6 0, U i6 0, U i6 0, U i6 0, U i6 0, U i6 0], U i6 154]) (by simp [results, Tryz.results14, go_sem, cF]) rfl ⟨rfl, HB.out⟩
theorem rcho_y (k a b m kh kw sh sw tp lf bt rt : Int) (wa : Option Addr) (lw wc : Nat) (ba : Option Addr) (lb bc : Nat) (sm ss um us z p lo hi h w c H V C : Int) (W : World) (ch slo shi R1 R2 T1 T2 P1 P2 : Int) (G L : Nat) (hG : G ≤ 512) (hRn : ∀ W', Below W.heap.size W W' → Calls Tryz.prog 31 #[.agg #[U i6 k, U i6 a, U i6 b, U i6 m, U i6 kh, U i6 kw, U i6 sh, U i6 sw, U i6 tp, U i6 lf, U i6 bt, U i6 rt, .slice wa lw wc, .slice ba lb bc, U i6 sm, U i6 ss, U i6 um, U i6 us, U i6 z, U i6 p, U i6 lo, U i6 hi, U i6 h, U i6 w, U i6 c, U i6 H, U i6 V, U i6 C], U i6 ch, .agg #[U i6 slo, U i6 shi]] W' fun e w' => e = .returned (.agg #[U i6 R1, U i6 R2]) ∧ Below W'.heap.size W' w') (hn : wiB (-2147483648) 2147483647 R1 R2 = true)
  (hTo : ∀ W', Below W.heap.size W W' → Calls Tryz.prog 33 #[.agg #[U i6 k, U i6 a, U i6 b, U i6 m, U i6 kh, U i6 kw, U i6 sh, U i6 sw, U i6 tp, U i6 lf, U i6 bt, U i6 rt, .slice wa lw wc, .slice ba lb bc, U i6 sm, U i6 ss, U i6 um, U i6 us, U i6 z, U i6 p, U i6 lo, U i6 hi, U i6 h, U i6 w, U i6 c, U i6 H, U i6 V, U i6 C], U i6 ch, .agg #[U i6 slo, U i6 shi]] W' fun e w' => e = .returned (.agg #[U i6 T1, U i6 T2]) ∧ Below W'.heap.size W' w')
  (hMo : ∀ W', Below W.heap.size W W' → Calls Tryz.prog 12 #[.agg #[U i6 k, U i6 a, U i6 b, U i6 m, U i6 kh, U i6 kw, U i6 sh, U i6 sw, U i6 tp, U i6 lf, U i6 bt, U i6 rt, .slice wa lw wc, .slice ba lb bc, U i6 sm, U i6 ss, U i6 um, U i6 us, U i6 z, U i6 p, U i6 lo, U i6 hi, U i6 h, U i6 w, U i6 c, U i6 H, U i6 V, U i6 C], U i6 ch, .agg #[U i6 slo, U i6 shi]] W' fun e w' => e = .returned (U i6 (G : Int)) ∧ Below W'.heap.size W' w')
  (hLn : ∀ W', Below W.heap.size W W' → Calls Tryz.prog 8 #[.agg #[U i6 k, U i6 a, U i6 b, U i6 m, U i6 kh, U i6 kw, U i6 sh, U i6 sw, U i6 tp, U i6 lf, U i6 bt, U i6 rt, .slice wa lw wc, .slice ba lb bc, U i6 sm, U i6 ss, U i6 um, U i6 us, U i6 z, U i6 p, U i6 lo, U i6 hi, U i6 h, U i6 w, U i6 c, U i6 H, U i6 V, U i6 C]] W' fun e w' => e = .returned (U i6 (L : Int)) ∧ Below W'.heap.size W' w')
  (hPa : 0 < G → ∀ W', Below W.heap.size W W' → Calls Tryz.prog 34 #[.agg #[U i6 k, U i6 a, U i6 b, U i6 m, U i6 kh, U i6 kw, U i6 sh, U i6 sw, U i6 tp, U i6 lf, U i6 bt, U i6 rt, .slice wa lw wc, .slice ba lb bc, U i6 sm, U i6 ss, U i6 um, U i6 us, U i6 z, U i6 p, U i6 lo, U i6 hi, U i6 h, U i6 w, U i6 c, U i6 H, U i6 V, U i6 C], U i6 ch, .agg #[U i6 slo, U i6 shi], U i6 (G : Int)] W' fun e w' => e = .returned (.agg #[U i6 P1, U i6 P2]) ∧ Below W'.heap.size W' w') :
  Calls Tryz.prog 14 #[.agg #[U i6 k, U i6 a, U i6 b, U i6 m, U i6 kh, U i6 kw, U i6 sh, U i6 sw, U i6 tp, U i6 lf, U i6 bt, U i6 rt, .slice wa lw wc, .slice ba lb bc, U i6 sm, U i6 ss, U i6 um, U i6 us, U i6 z, U i6 p, U i6 lo, U i6 hi, U i6 h, U i6 w, U i6 c, U i6 H, U i6 V, U i6 C], U i6 ch, .agg #[U i6 slo, U i6 shi]] W fun e w' => e = .returned (.tuple #[.agg (chC G L (R1, R2) (P1, P2) (T1, T2)), U i6 0]) ∧ Below W.heap.size W w' := by
 have HRn : Hid (∀ W', Below W.heap.size W W' → _) := hRn
 have HTo : Hid (∀ W', Below W.heap.size W W' → _) := hTo
 have HMo : Hid (∀ W', Below W.heap.size W W' → _) := hMo
 have HLn : Hid (∀ W', Below W.heap.size W W' → _) := hLn
 have HPa : Hid (0 < G → ∀ W', Below W.heap.size W W' → _) := hPa
 have HN : Hid (∀ W', _) := fun W' => rnar_32 R1 R2 W'
 rw [hn] at HN
 obtain ⟨RA, hRA⟩ : ∃ RA, chC G L (R1, R2) (P1, P2) (T1, T2) = RA := ⟨_, rfl⟩
 have HRA : Hid (chC G L (R1, R2) (P1, P2) (T1, T2) = RA) := hRA
 rw [hRA]
 have s0 := (((St.start W).new (c := #[U i6 k, U i6 a, U i6 b, U i6 m, U i6 kh, U i6 kw, U i6 sh, U i6 sw, U i6 tp, U i6 lf, U i6 bt, U i6 rt, .slice wa lw wc, .slice ba lb bc, U i6 sm, U i6 ss, U i6 um, U i6 us, U i6 z, U i6 p, U i6 lo, U i6 hi, U i6 h, U i6 w, U i6 c, U i6 H, U i6 V, U i6 C]) (t := 45)).new (c := #[U i6 slo, U i6 shi]) (t := 28)).new (c := #[U i6 0, U i6 0, U i6 0, U i6 0, U i6 0, U i6 0]) (t := 30)
 simp only [World.size_alloc] at s0
 have S0 : Hid (St W _ _) := s0
 clear hRn hn s0 hTo hMo hLn hPa hRA
 go_enter Tryz.func14, Tryz.ntmps14
 have h3 := S0.out.h3
 go_wp2_with (refine wpList_load_row rfl 45 (.tmp 3) rfl W.heap.size rfl 45 _ (0, 0) _ h3 Tryz.underlying45 rfl (by kernel_rfl) ?_)
 refine Calls.mono (HRn.out _ S0.out.below) ?_
 rintro e w5 ⟨rfl, hb⟩
 have s5 := (S0.out.call hb).new (c := #[U i6 R1, U i6 R2]) (t := 28)
 have hz5 := lt_of_heap (S0.out.call hb).h1
 obtain ⟨B8, hB8⟩ : ∃ B, w5.heap.size = B := ⟨_, rfl⟩
 have S5 : Hid (St W _ _) := s5
 clear hb S0 h3 HRn
 obtain ⟨c1, f1, z1, -⟩ := s5.rules
 clear s5
 go_wp2_with fail
 refine Calls.mono (HN.out _) ?_
 rintro e w6 ⟨rfl, hb⟩
 have s6 := S5.out.call hb
 rw [hB8] at s6 hz5
 have S6 : Hid (St W w6 _) := s6
 clear hb S5 HN c1 f1 z1 hB8
 have h3 := S6.out.h4
 obtain ⟨-, -, -, -, -, -, c3, f3, z3, -⟩ := s6.rules
 clear s6
 go_wp2_with (refine wpList_load_row rfl 45 (.tmp 3) rfl W.heap.size rfl 45 _ (0, 0) _ h3 Tryz.underlying45 rfl (by kernel_rfl) ?_)
 refine Calls.mono (HTo.out _ S6.out.below) ?_
 rintro e w7 ⟨rfl, hb⟩
 have s7 := (S6.out.call hb).new (c := #[U i6 T1, U i6 T2]) (t := 28)
 have hz7 := lt_of_heap (S6.out.call hb).h1
 have S7 : Hid (St W _ _) := s7
 clear hb S6 h3 HTo c3 f3 z3
 have h3 := S7.out.tail.h4
 obtain ⟨-, -, -, -, -, -, -, -, -, c4, f4, z4, -⟩ := s7.rules
 clear s7
 go_wp2_with (refine wpList_load_row rfl 45 (.tmp 3) rfl W.heap.size rfl 45 _ (0, 0) _ h3 Tryz.underlying45 rfl (by kernel_rfl) ?_)
 refine Calls.mono (HMo.out _ S7.out.below) ?_
 rintro e w8 ⟨rfl, hb⟩
 have s8 := S7.out.call hb
 obtain ⟨B9, hB9⟩ : ∃ B, w7.heap.size = B := ⟨_, rfl⟩
 rw [hB9] at s8 hz7 ⊢
 have S8 : Hid (St W w8 ((B9, #[U i6 T1, U i6 T2], 28) :: (B8, #[U i6 R1, U i6 R2], 28) :: (W.heap.size + 1 + 1, #[U i6 0, U i6 0, U i6 0, U i6 0, U i6 0, U i6 0], 30) :: (W.heap.size + 1, #[U i6 slo, U i6 shi], 28) :: (W.heap.size, #[U i6 k, U i6 a, U i6 b, U i6 m, U i6 kh, U i6 kw, U i6 sh, U i6 sw, U i6 tp, U i6 lf, U i6 bt, U i6 rt, .slice wa lw wc, .slice ba lb bc, U i6 sm, U i6 ss, U i6 um, U i6 us, U i6 z, U i6 p, U i6 lo, U i6 hi, U i6 h, U i6 w, U i6 c, U i6 H, U i6 V, U i6 C], 45) :: [])) := s8
 clear hb S7 h3 HMo c4 f4 z4 hB9 s8
 have hsub : Hid (∀ y ∈ ((B9, #[U i6 T1, U i6 T2], 28) :: (B8, #[U i6 R1, U i6 R2], 28) :: (W.heap.size + 1, #[U i6 slo, U i6 shi], 28) :: (W.heap.size, #[U i6 k, U i6 a, U i6 b, U i6 m, U i6 kh, U i6 kw, U i6 sh, U i6 sw, U i6 tp, U i6 lf, U i6 bt, U i6 rt, .slice wa lw wc, .slice ba lb bc, U i6 sm, U i6 ss, U i6 um, U i6 us, U i6 z, U i6 p, U i6 lo, U i6 hi, U i6 h, U i6 w, U i6 c, U i6 H, U i6 V, U i6 C], 45) :: [] : List (Nat × Array Value × TypeId)), y ∈ ((B9, #[U i6 T1, U i6 T2], 28) :: (B8, #[U i6 R1, U i6 R2], 28) :: (W.heap.size + 1 + 1, #[U i6 0, U i6 0, U i6 0, U i6 0, U i6 0, U i6 0], 30) :: (W.heap.size + 1, #[U i6 slo, U i6 shi], 28) :: (W.heap.size, #[U i6 k, U i6 a, U i6 b, U i6 m, U i6 kh, U i6 kw, U i6 sh, U i6 sw, U i6 tp, U i6 lf, U i6 bt, U i6 rt, .slice wa lw wc, .slice ba lb bc, U i6 sm, U i6 ss, U i6 um, U i6 us, U i6 z, U i6 p, U i6 lo, U i6 hi, U i6 h, U i6 w, U i6 c, U i6 H, U i6 V, U i6 C], 45) :: [] : List (Nat × Array Value × TypeId))) := fun y hy => by simp only [List.mem_cons, List.not_mem_nil, or_false] at hy ⊢; rcases hy with h | h | h | h <;> simp [h]
 have hin : Hid (∀ y ∈ ((B9, #[U i6 T1, U i6 T2], 28) :: (B8, #[U i6 R1, U i6 R2], 28) :: (W.heap.size + 1, #[U i6 slo, U i6 shi], 28) :: (W.heap.size, #[U i6 k, U i6 a, U i6 b, U i6 m, U i6 kh, U i6 kw, U i6 sh, U i6 sw, U i6 tp, U i6 lf, U i6 bt, U i6 rt, .slice wa lw wc, .slice ba lb bc, U i6 sm, U i6 ss, U i6 um, U i6 us, U i6 z, U i6 p, U i6 lo, U i6 hi, U i6 h, U i6 w, U i6 c, U i6 H, U i6 V, U i6 C], 45) :: [] : List (Nat × Array Value × TypeId)), y.1 ≠ W.heap.size + 1 + 1) := by unfold Hid; simp; omega
 by_cases hK0 : 0 < G
 ·have hKp : ((G : Int) == 0) = false := by rw [beq_eq_false_iff_ne]; omega
  have HP' : Hid (∀ W', Below W.heap.size W W' → _) := HPa.out hK0
  have HR2 : Hid (RA = #[U i6 16, U i6 (G : Int), U i6 P1, U i6 P2, U i6 T1, U i6 T2]) := by unfold Hid; rw [← HRA.out]; exact if_pos hK0
  clear HPa HLn HRA
  go_upto_region 8 with fail
  refine regionN (fun w' => St W w' ((B9, #[U i6 T1, U i6 T2], 28) :: (B8, #[U i6 R1, U i6 R2], 28) :: (W.heap.size + 1, #[U i6 slo, U i6 shi], 28) :: (W.heap.size, #[U i6 k, U i6 a, U i6 b, U i6 m, U i6 kh, U i6 kw, U i6 sh, U i6 sw, U i6 tp, U i6 lf, U i6 bt, U i6 rt, .slice wa lw wc, .slice ba lb bc, U i6 sm, U i6 ss, U i6 um, U i6 us, U i6 z, U i6 p, U i6 lo, U i6 hi, U i6 h, U i6 w, U i6 c, U i6 H, U i6 V, U i6 C], 45) :: [])) (fun a0 a' w' => a' = (((((((((a0.put (some 34) (U i6 (G : Int))).put (some 35) (.agg #[U i6 k, U i6 a, U i6 b, U i6 m, U i6 kh, U i6 kw, U i6 sh, U i6 sw, U i6 tp, U i6 lf, U i6 bt, U i6 rt, .slice wa lw wc, .slice ba lb bc, U i6 sm, U i6 ss, U i6 um, U i6 us, U i6 z, U i6 p, U i6 lo, U i6 hi, U i6 h, U i6 w, U i6 c, U i6 H, U i6 V, U i6 C])).put (some 36) (U i6 ch)).put (some 37) (.agg #[U i6 slo, U i6 shi])).put (some 38) (U i6 (G : Int))).put (some 39) (.agg #[U i6 P1, U i6 P2])).put (some 40) (.agg #[U i6 T1, U i6 T2])).put (some 41) (.agg #[U i6 16, U i6 (G : Int), U i6 P1, U i6 P2, U i6 T1, U i6 T2])).put (some 7) (U i6 0)) ∧ St W w' [(W.heap.size + 1 + 1, #[U i6 16, U i6 (G : Int), U i6 P1, U i6 P2, U i6 T1, U i6 T2], 30)]) (by kernel_rfl) ?_ ?_
  ·obtain ⟨wd, hwd⟩ : ∃ wd, w8.drew = wd := ⟨_, rfl⟩
   have SD : Hid (St W wd ((B9, #[U i6 T1, U i6 T2], 28) :: (B8, #[U i6 R1, U i6 R2], 28) :: (W.heap.size + 1 + 1, #[U i6 0, U i6 0, U i6 0, U i6 0, U i6 0, U i6 0], 30) :: (W.heap.size + 1, #[U i6 slo, U i6 shi], 28) :: (W.heap.size, #[U i6 k, U i6 a, U i6 b, U i6 m, U i6 kh, U i6 kw, U i6 sh, U i6 sw, U i6 tp, U i6 lf, U i6 bt, U i6 rt, .slice wa lw wc, .slice ba lb bc, U i6 sm, U i6 ss, U i6 um, U i6 us, U i6 z, U i6 p, U i6 lo, U i6 hi, U i6 h, U i6 w, U i6 c, U i6 H, U i6 V, U i6 C], 45) :: [])) := by unfold Hid; rw [← hwd]; exact S8.out.drew
   rw [hwd]
   clear hwd
   refine takeC 0 (v := U i6 (G : Int)) rfl rfl (by kernel_rfl) (by kernel_rfl) (by kernel_rfl) (fun _ _ _ h => h) (fun _ => rfl) rfl (fun w' hw' => by go_simp) ?_
   refine takeC 1 (v := .agg #[U i6 k, U i6 a, U i6 b, U i6 m, U i6 kh, U i6 kw, U i6 sh, U i6 sw, U i6 tp, U i6 lf, U i6 bt, U i6 rt, .slice wa lw wc, .slice ba lb bc, U i6 sm, U i6 ss, U i6 um, U i6 us, U i6 z, U i6 p, U i6 lo, U i6 hi, U i6 h, U i6 w, U i6 c, U i6 H, U i6 V, U i6 C]) rfl rfl (by kernel_rfl) (by kernel_rfl) (by kernel_rfl) (fun _ _ _ h => h) (fun _ => rfl) rfl (fun w' hw' => run_la 45 (.tmp 3) rfl ⟨W.heap.size, 0, none⟩ (by kernel_rfl) (#[U i6 k, U i6 a, U i6 b, U i6 m, U i6 kh, U i6 kw, U i6 sh, U i6 sw, U i6 tp, U i6 lf, U i6 bt, U i6 rt, .slice wa lw wc, .slice ba lb bc, U i6 sm, U i6 ss, U i6 um, U i6 us, U i6 z, U i6 p, U i6 lo, U i6 hi, U i6 h, U i6 w, U i6 c, U i6 H, U i6 V, U i6 C]).toList _ (fun j v hj => by rw [Addr.add_lit, Nat.zero_add, (cells_at hw'.h4).1]; simpa using hj) Tryz.underlying45 rfl (by kernel_rfl)) ?_
   refine takeC 2 (v := U i6 ch) rfl rfl (by kernel_rfl) (by kernel_rfl) (by kernel_rfl) (fun _ _ _ h => h) (fun _ => rfl) rfl (fun w' hw' => by go_simp) ?_
   refine takeC 3 (v := .agg #[U i6 slo, U i6 shi]) rfl rfl (by kernel_rfl) (by kernel_rfl) (by kernel_rfl) (fun _ _ _ h => h) (fun _ => rfl) rfl (fun w' hw' => run_la 28 (.tmp 5) rfl ⟨W.heap.size + 1, 0, none⟩ (by kernel_rfl) [U i6 slo, U i6 shi] _ (fun j v hj => by rw [Addr.add_lit, Nat.zero_add, (cells_at hw'.h3).1]; simpa using hj) Tryz.underlying28 rfl (by kernel_rfl)) ?_
   refine takeC 4 (v := U i6 (G : Int)) rfl rfl (by kernel_rfl) (by kernel_rfl) (by kernel_rfl) (fun _ _ _ h => h) (fun _ => rfl) rfl (fun w' hw' => by go_simp) ?_
   refine takeC 6 (v := .agg #[U i6 T1, U i6 T2]) rfl rfl (by kernel_rfl) (by kernel_rfl) (by kernel_rfl) (fun _ _ _ h => h) (fun _ => rfl) rfl (fun w' hw' => run_la 28 (.tmp 9) rfl ⟨B9, 0, none⟩ (by kernel_rfl) [U i6 T1, U i6 T2] _ (fun j v hj => by rw [Addr.add_lit, Nat.zero_add, (cells_at hw'.h1).1]; simpa using hj) Tryz.underlying28 rfl (by kernel_rfl)) ?_
   refine yK 5 (SD.out.sub hsub.out) (by kernel_rfl) rfl rfl 34 #[.agg #[U i6 k, U i6 a, U i6 b, U i6 m, U i6 kh, U i6 kw, U i6 sh, U i6 sw, U i6 tp, U i6 lf, U i6 bt, U i6 rt, .slice wa lw wc, .slice ba lb bc, U i6 sm, U i6 ss, U i6 um, U i6 us, U i6 z, U i6 p, U i6 lo, U i6 hi, U i6 h, U i6 w, U i6 c, U i6 H, U i6 V, U i6 C], U i6 ch, .agg #[U i6 slo, U i6 shi], U i6 (G : Int)] (by kernel_rfl) (HP'.out _ SD.out.below) ?_
   rintro e w9 ⟨rfl, hb9⟩
   refine ⟨_, rfl, ?_⟩
   have s9 := (SD.out.call hb9).sub (l' := (W.heap.size + 1 + 1, #[U i6 0, U i6 0, U i6 0, U i6 0, U i6 0, U i6 0], 30) :: (B9, #[U i6 T1, U i6 T2], 28) :: (B8, #[U i6 R1, U i6 R2], 28) :: (W.heap.size + 1, #[U i6 slo, U i6 shi], 28) :: (W.heap.size, #[U i6 k, U i6 a, U i6 b, U i6 m, U i6 kh, U i6 kw, U i6 sh, U i6 sw, U i6 tp, U i6 lf, U i6 bt, U i6 rt, .slice wa lw wc, .slice ba lb bc, U i6 sm, U i6 ss, U i6 um, U i6 us, U i6 z, U i6 p, U i6 lo, U i6 hi, U i6 h, U i6 w, U i6 c, U i6 H, U i6 V, U i6 C], 45) :: []) (fun y hy => by simp only [List.mem_cons, List.not_mem_nil, or_false] at hy ⊢; rcases hy with h | h | h | h | h <;> simp [h])
   refine takeC 7 (v := .agg #[U i6 16, U i6 (G : Int), U i6 P1, U i6 P2, U i6 T1, U i6 T2]) rfl rfl (by kernel_rfl) (by kernel_rfl) (by kernel_rfl) (fun _ _ _ h => h) (fun _ => rfl) rfl (fun w' hw' => by kernel_rfl) ?_
   refine yS 8 s9.tail (by kernel_rfl) rfl rfl 30 (.tmp 6) (.tmp 41) rfl (W.heap.size + 1 + 1) #[U i6 16, U i6 (G : Int), U i6 P1, U i6 P2, U i6 T1, U i6 T2] (by kernel_rfl) (by kernel_rfl) 30 #[U i6 0, U i6 0, U i6 0, U i6 0, U i6 0, U i6 0] s9.h1 (by kernel_rfl) rfl (by simp [Value.oneCell']) ?_
   have s10 := s9.rowset (c' := #[U i6 16, U i6 (G : Int), U i6 P1, U i6 P2, U i6 T1, U i6 T2]) hin.out
   obtain ⟨w10, hw10⟩ : ∃ w10, w9.setRow (W.heap.size + 1 + 1) #[U i6 16, U i6 (G : Int), U i6 P1, U i6 P2, U i6 T1, U i6 T2] = w10 := ⟨_, rfl⟩
   rw [hw10] at s10 ⊢
   refine yR 9 s10.tail (by kernel_rfl) rfl rfl (U i6 0) w10 (by kernel_rfl) ?_
   exact doneM s10.tail (by kernel_rfl) ⟨by kernel_rfl, s10.sub (fun y hy => by simp only [List.mem_cons, List.not_mem_nil, or_false] at hy ⊢; exact .inl hy)⟩ _
  rintro a' w9 ⟨rfl, s9⟩
  obtain ⟨cF, -⟩ := s9.rules
  have HB : Hid (Below W.heap.size W w9) := s9.below
  clear s9 S8
  go_wp2
  exact bodyPost_ret (v := .tuple #[.agg #[U i6 16, U i6 (G : Int), U i6 P1, U i6 P2, U i6 T1, U i6 T2], U i6 0]) (by simp [results, Tryz.results14, go_sem, cF]) rfl ⟨by rw [HR2.out], HB.out⟩
 ·have hKp : ((G : Int) == 0) = true := by rw [beq_iff_eq]; omega
  have HR2 : Hid (RA = #[U i6 32, U i6 (L : Int), U i6 R1, U i6 R2, U i6 T1, U i6 T2]) := by unfold Hid; rw [← HRA.out]; exact if_neg hK0
  clear HPa HRA
  go_upto_region 7 with fail
  refine regionN (fun w' => St W w' ((B9, #[U i6 T1, U i6 T2], 28) :: (B8, #[U i6 R1, U i6 R2], 28) :: (W.heap.size + 1, #[U i6 slo, U i6 shi], 28) :: (W.heap.size, #[U i6 k, U i6 a, U i6 b, U i6 m, U i6 kh, U i6 kw, U i6 sh, U i6 sw, U i6 tp, U i6 lf, U i6 bt, U i6 rt, .slice wa lw wc, .slice ba lb bc, U i6 sm, U i6 ss, U i6 um, U i6 us, U i6 z, U i6 p, U i6 lo, U i6 hi, U i6 h, U i6 w, U i6 c, U i6 H, U i6 V, U i6 C], 45) :: [])) (fun a0 a' w' => a' = ((((((a0.put (some 29) (.agg #[U i6 k, U i6 a, U i6 b, U i6 m, U i6 kh, U i6 kw, U i6 sh, U i6 sw, U i6 tp, U i6 lf, U i6 bt, U i6 rt, .slice wa lw wc, .slice ba lb bc, U i6 sm, U i6 ss, U i6 um, U i6 us, U i6 z, U i6 p, U i6 lo, U i6 hi, U i6 h, U i6 w, U i6 c, U i6 H, U i6 V, U i6 C])).put (some 30) (U i6 (L : Int))).put (some 31) (.agg #[U i6 R1, U i6 R2])).put (some 32) (.agg #[U i6 T1, U i6 T2])).put (some 33) (.agg #[U i6 32, U i6 (L : Int), U i6 R1, U i6 R2, U i6 T1, U i6 T2])).put (some 7) (U i6 0)) ∧ St W w' [(W.heap.size + 1 + 1, #[U i6 32, U i6 (L : Int), U i6 R1, U i6 R2, U i6 T1, U i6 T2], 30)]) (by kernel_rfl) ?_ ?_
  ·obtain ⟨wd, hwd⟩ : ∃ wd, w8.drew = wd := ⟨_, rfl⟩
   have SD : Hid (St W wd ((B9, #[U i6 T1, U i6 T2], 28) :: (B8, #[U i6 R1, U i6 R2], 28) :: (W.heap.size + 1 + 1, #[U i6 0, U i6 0, U i6 0, U i6 0, U i6 0, U i6 0], 30) :: (W.heap.size + 1, #[U i6 slo, U i6 shi], 28) :: (W.heap.size, #[U i6 k, U i6 a, U i6 b, U i6 m, U i6 kh, U i6 kw, U i6 sh, U i6 sw, U i6 tp, U i6 lf, U i6 bt, U i6 rt, .slice wa lw wc, .slice ba lb bc, U i6 sm, U i6 ss, U i6 um, U i6 us, U i6 z, U i6 p, U i6 lo, U i6 hi, U i6 h, U i6 w, U i6 c, U i6 H, U i6 V, U i6 C], 45) :: [])) := by unfold Hid; rw [← hwd]; exact S8.out.drew
   rw [hwd]
   clear hwd
   refine takeC 0 (v := .agg #[U i6 k, U i6 a, U i6 b, U i6 m, U i6 kh, U i6 kw, U i6 sh, U i6 sw, U i6 tp, U i6 lf, U i6 bt, U i6 rt, .slice wa lw wc, .slice ba lb bc, U i6 sm, U i6 ss, U i6 um, U i6 us, U i6 z, U i6 p, U i6 lo, U i6 hi, U i6 h, U i6 w, U i6 c, U i6 H, U i6 V, U i6 C]) rfl rfl (by kernel_rfl) (by kernel_rfl) (by kernel_rfl) (fun _ _ _ h => h) (fun _ => rfl) rfl (fun w' hw' => run_la 45 (.tmp 3) rfl ⟨W.heap.size, 0, none⟩ (by kernel_rfl) (#[U i6 k, U i6 a, U i6 b, U i6 m, U i6 kh, U i6 kw, U i6 sh, U i6 sw, U i6 tp, U i6 lf, U i6 bt, U i6 rt, .slice wa lw wc, .slice ba lb bc, U i6 sm, U i6 ss, U i6 um, U i6 us, U i6 z, U i6 p, U i6 lo, U i6 hi, U i6 h, U i6 w, U i6 c, U i6 H, U i6 V, U i6 C]).toList _ (fun j v hj => by rw [Addr.add_lit, Nat.zero_add, (cells_at hw'.h4).1]; simpa using hj) Tryz.underlying45 rfl (by kernel_rfl)) ?_
   refine takeC 2 (v := .agg #[U i6 R1, U i6 R2]) rfl rfl (by kernel_rfl) (by kernel_rfl) (by kernel_rfl) (fun _ _ _ h => h) (fun _ => rfl) rfl (fun w' hw' => run_la 28 (.tmp 8) rfl ⟨B8, 0, none⟩ (by kernel_rfl) [U i6 R1, U i6 R2] _ (fun j v hj => by rw [Addr.add_lit, Nat.zero_add, (cells_at hw'.h2).1]; simpa using hj) Tryz.underlying28 rfl (by kernel_rfl)) ?_
   refine takeC 3 (v := .agg #[U i6 T1, U i6 T2]) rfl rfl (by kernel_rfl) (by kernel_rfl) (by kernel_rfl) (fun _ _ _ h => h) (fun _ => rfl) rfl (fun w' hw' => run_la 28 (.tmp 9) rfl ⟨B9, 0, none⟩ (by kernel_rfl) [U i6 T1, U i6 T2] _ (fun j v hj => by rw [Addr.add_lit, Nat.zero_add, (cells_at hw'.h1).1]; simpa using hj) Tryz.underlying28 rfl (by kernel_rfl)) ?_
   refine yK 1 (SD.out.sub hsub.out) (by kernel_rfl) rfl rfl 8 #[.agg #[U i6 k, U i6 a, U i6 b, U i6 m, U i6 kh, U i6 kw, U i6 sh, U i6 sw, U i6 tp, U i6 lf, U i6 bt, U i6 rt, .slice wa lw wc, .slice ba lb bc, U i6 sm, U i6 ss, U i6 um, U i6 us, U i6 z, U i6 p, U i6 lo, U i6 hi, U i6 h, U i6 w, U i6 c, U i6 H, U i6 V, U i6 C]] (by kernel_rfl) (HLn.out _ SD.out.below) ?_
   rintro e w9 ⟨rfl, hb9⟩
   refine ⟨_, rfl, ?_⟩
   have s9 := (SD.out.call hb9).sub (l' := (W.heap.size + 1 + 1, #[U i6 0, U i6 0, U i6 0, U i6 0, U i6 0, U i6 0], 30) :: (B9, #[U i6 T1, U i6 T2], 28) :: (B8, #[U i6 R1, U i6 R2], 28) :: (W.heap.size + 1, #[U i6 slo, U i6 shi], 28) :: (W.heap.size, #[U i6 k, U i6 a, U i6 b, U i6 m, U i6 kh, U i6 kw, U i6 sh, U i6 sw, U i6 tp, U i6 lf, U i6 bt, U i6 rt, .slice wa lw wc, .slice ba lb bc, U i6 sm, U i6 ss, U i6 um, U i6 us, U i6 z, U i6 p, U i6 lo, U i6 hi, U i6 h, U i6 w, U i6 c, U i6 H, U i6 V, U i6 C], 45) :: []) (fun y hy => by simp only [List.mem_cons, List.not_mem_nil, or_false] at hy ⊢; rcases hy with h | h | h | h | h <;> simp [h])
   refine takeC 4 (v := .agg #[U i6 32, U i6 (L : Int), U i6 R1, U i6 R2, U i6 T1, U i6 T2]) rfl rfl (by kernel_rfl) (by kernel_rfl) (by kernel_rfl) (fun _ _ _ h => h) (fun _ => rfl) rfl (fun w' hw' => by kernel_rfl) ?_
   refine yS 5 s9.tail (by kernel_rfl) rfl rfl 30 (.tmp 6) (.tmp 33) rfl (W.heap.size + 1 + 1) #[U i6 32, U i6 (L : Int), U i6 R1, U i6 R2, U i6 T1, U i6 T2] (by kernel_rfl) (by kernel_rfl) 30 #[U i6 0, U i6 0, U i6 0, U i6 0, U i6 0, U i6 0] s9.h1 (by kernel_rfl) rfl (by simp [Value.oneCell']) ?_
   have s10 := s9.rowset (c' := #[U i6 32, U i6 (L : Int), U i6 R1, U i6 R2, U i6 T1, U i6 T2]) hin.out
   obtain ⟨w10, hw10⟩ : ∃ w10, w9.setRow (W.heap.size + 1 + 1) #[U i6 32, U i6 (L : Int), U i6 R1, U i6 R2, U i6 T1, U i6 T2] = w10 := ⟨_, rfl⟩
   rw [hw10] at s10 ⊢
   refine yR 6 s10.tail (by kernel_rfl) rfl rfl (U i6 0) w10 (by kernel_rfl) ?_
   exact doneM s10.tail (by kernel_rfl) ⟨by kernel_rfl, s10.sub (fun y hy => by simp only [List.mem_cons, List.not_mem_nil, or_false] at hy ⊢; exact .inl hy)⟩ _
  rintro a' w9 ⟨rfl, s9⟩
  obtain ⟨cF, -⟩ := s9.rules
  have HB : Hid (Below W.heap.size W w9) := s9.below
  clear s9 S8
  go_wp2
  exact bodyPost_ret (v := .tuple #[.agg #[U i6 32, U i6 (L : Int), U i6 R1, U i6 R2, U i6 T1, U i6 T2], U i6 0]) (by simp [results, Tryz.results14, go_sem, cF]) rfl ⟨by rw [HR2.out], HB.out⟩
end Go.Proofs.YtgiohlcipndakaaGreat
