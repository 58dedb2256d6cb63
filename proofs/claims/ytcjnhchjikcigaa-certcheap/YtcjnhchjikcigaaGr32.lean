/- The document's Copy of layer 8: the lists that it returns are its own. What the document's Cost of layer 15 returns. The walk of CertForms. -/
import Derived.Test.YtcjnhchjikcigaaGr29
import Derived.Test.YtcjnhchjikcigaaGr31
/- The document's Copy of layer 8: the lists that it returns are its own. What the document's Cost of layer 15 returns. -/
namespace Go.Proofs.Ytcjnhchjikcigaa
open Go.ChangeShapes Go.WideShapes Go.ChangeAt Go.RowKit
set_option linter.unusedVariables false
set_option maxHeartbeats 4000000 in
set_option maxRecDepth 100000 in
theorem copy_own (h w c lo hi ot : Int) (oa : Option Addr) (on oc : Nat) (O : Nat → Nat → Int) (Z B : Nat → List Int) (W : World) (hL : LRow W oa on oc O Z B) (hr : on * 208 ≤ 140737488351232) :
    Calls Try.prog 7 #[.agg #[.int .i64 h, .int .i64 w, .int .i64 c, .int .i64 lo, .int .i64 hi, .slice oa on oc, .int .i64 ot]] W fun e w' => ∃ oa' oc', e = .returned (.agg #[.int .i64 h, .int .i64 w, .int .i64 c, .int .i64 lo, .int .i64 hi, .slice oa' on oc', .int .i64 ot]) ∧ CRow w' W.heap.size (.slice oa' on oc') on O Z B ∧ Below W.heap.size W w' := by
  have hocc := hL.1
  have hocm := hL.2.1
  unfold maxLen at hocm
  have HL : Hid (LRow W oa on oc O Z B) := hL
  clear hL
  have s0 := ((St.start W).new (c := #[.int .i64 h, .int .i64 w, .int .i64 c, .int .i64 lo, .int .i64 hi, .slice oa on oc, .int .i64 ot]) (t := 26)).new (c := #[.int .i64 0, .int .i64 0, .int .i64 0, .int .i64 0, .int .i64 0, .slice none 0 0, .int .i64 0]) (t := 26)
  simp only [World.size_alloc] at s0
  have H0 : Hid (St W _ _) := s0
  clear s0
  go_enter Try.func7, Try.ntmps7
  go_wp2
  go_loopw [3, 9] (fun v i wr => ∃ (k : Nat), k ≤ on ∧ i = .int .i64 k ∧ CRow wr W.heap.size v k O Z B ∧ St W wr [(W.heap.size + 1, #[.int .i64 0, .int .i64 0, .int .i64 0, .int .i64 0, .int .i64 0, .slice none 0 0, .int .i64 0], 26), (W.heap.size, #[.int .i64 h, .int .i64 w, .int .i64 c, .int .i64 lo, .int .i64 hi, .slice oa on oc, .int .i64 ot], 26)]) (fun _ i _ => on - (intOf i).toNat)
  case atStart => exact ⟨0, Nat.zero_le _, rfl, CRow.nil _ _ _ _ _, H0.out⟩
  case round =>
    obtain ⟨i, hi0, rfl, hC, sr⟩ := hrel
    obtain ⟨va, vc, rfl⟩ := hC.slice
    obtain ⟨c1, f1, zr1, c2, f2, zr2, -⟩ := sr.rules
    by_cases hlt : i < on
    rotate_left
    · obtain rfl : i = on := by omega
      have HC : Hid (CRow wr W.heap.size (.slice va i vc) i O Z B) := hC
      have Hs : Hid (St W wr _) := sr
      clear sr hC
      go_wp2
      refine bodyPost_ret (v := .agg #[.int .i64 h, .int .i64 w, .int .i64 c, .int .i64 lo, .int .i64 hi, .slice va i vc, .int .i64 ot]) (by simp [results, Try.results7, go_sem, *]) rfl ⟨va, vc, rfl, HC.out.other ?_, ?_⟩
      · intro g cc t ht hg
        have ng1 : g ≠ W.heap.size := ne_of_ty hg Hs.out.h2 ht
        have ng2 : g ≠ W.heap.size + 1 := ne_of_ty hg Hs.out.h1 ht
        have e1 : ∀ (w : World) (i : Nat) (v : Value), (w.setCell ⟨W.heap.size, i, none⟩ v).heap[g]? = w.heap[g]? := fun w i v => Below.heap_setCell w ⟨W.heap.size, i, none⟩ v g ng1
        have e2 : ∀ (w : World) (i : Nat) (v : Value), (w.setCell ⟨W.heap.size + 1, i, none⟩ v).heap[g]? = w.heap[g]? := fun w i v => Below.heap_setCell w ⟨W.heap.size + 1, i, none⟩ v g ng2
        simp only [e1, e2]
        exact hg
      · repeat refine Below.setCell (p := ⟨_, _, none⟩) ?_ (by simp) _
        exact Hs.out.below
    · obtain ⟨x, rfl, wa, lw, cw, ba, lb, cb, e12, e13, hcell, hz, hbz, rz, rb⟩ := (HL.out.below sr.below).at hlt
      have hcell' : Hid (∀ q v, [.int .i64 (O i 0), .int .i64 (O i 1), .int .i64 (O i 2), .int .i64 (O i 3), .int .i64 (O i 4), .int .i64 (O i 5), .int .i64 (O i 6), .int .i64 (O i 7), .int .i64 (O i 8), .int .i64 (O i 9), .int .i64 (O i 10), .int .i64 (O i 11), .slice wa lw cw, .slice ba lb cb, .int .i64 (O i 14), .int .i64 (O i 15), .int .i64 (O i 16), .int .i64 (O i 17), .int .i64 (O i 18), .int .i64 (O i 19), .int .i64 (O i 20), .int .i64 (O i 21)][q]? = some v → wr.cell? ((x.add (i * 22)).add q) = some v) := hcell
      have sb := sr.new (c := #[.int .i64 (O i 0), .int .i64 (O i 1), .int .i64 (O i 2), .int .i64 (O i 3), .int .i64 (O i 4), .int .i64 (O i 5), .int .i64 (O i 6), .int .i64 (O i 7), .int .i64 (O i 8), .int .i64 (O i 9), .int .i64 (O i 10), .int .i64 (O i 11), .slice wa lw cw, .slice ba lb cb, .int .i64 (O i 14), .int .i64 (O i 15), .int .i64 (O i 16), .int .i64 (O i 17), .int .i64 (O i 18), .int .i64 (O i 19), .int .i64 (O i 20), .int .i64 (O i 21)]) (t := 70)
      have HZ : Hid (IRow .i16 wr wa lw cw (Z i)) := hz
      have HB : Hid (IRow .i32 wr ba lb cb (B i)) := hbz
      have HC : Hid (CRow wr W.heap.size (.slice va i vc) i O Z B) := hC
      have D0 := bal wr (.cells #[.int .i64 (O i 0), .int .i64 (O i 1), .int .i64 (O i 2), .int .i64 (O i 3), .int .i64 (O i 4), .int .i64 (O i 5), .int .i64 (O i 6), .int .i64 (O i 7), .int .i64 (O i 8), .int .i64 (O i 9), .int .i64 (O i 10), .int .i64 (O i 11), .slice wa lw cw, .slice ba lb cb, .int .i64 (O i 14), .int .i64 (O i 15), .int .i64 (O i 16), .int .i64 (O i 17), .int .i64 (O i 18), .int .i64 (O i 19), .int .i64 (O i 20), .int .i64 (O i 21)] 70)
      clear hcell hz hbz hC H0
      go_upto_region 4 with fail
      go_upto_region 5 with (first
        | (refine wpList_load_any rfl 70 (.tmp 11) rfl _ rfl [.int .i64 (O i 0), .int .i64 (O i 1), .int .i64 (O i 2), .int .i64 (O i 3), .int .i64 (O i 4), .int .i64 (O i 5), .int .i64 (O i 6), .int .i64 (O i 7), .int .i64 (O i 8), .int .i64 (O i 9), .int .i64 (O i 10), .int .i64 (O i 11), .slice wa lw cw, .slice ba lb cb, .int .i64 (O i 14), .int .i64 (O i 15), .int .i64 (O i 16), .int .i64 (O i 17), .int .i64 (O i 18), .int .i64 (O i 19), .int .i64 (O i 20), .int .i64 (O i 21)] _ hcell'.out Try.underlying70 rfl (by kernel_rfl) ?_)
        | (refine wpList_st_new rfl 70 (.tmp 5) (.tmp 12) rfl wr _ #[.int .i64 (O i 0), .int .i64 (O i 1), .int .i64 (O i 2), .int .i64 (O i 3), .int .i64 (O i 4), .int .i64 (O i 5), .int .i64 (O i 6), .int .i64 (O i 7), .int .i64 (O i 8), .int .i64 (O i 9), .int .i64 (O i 10), .int .i64 (O i 11), .slice wa lw cw, .slice ba lb cb, .int .i64 (O i 14), .int .i64 (O i 15), .int .i64 (O i 16), .int .i64 (O i 17), .int .i64 (O i 18), .int .i64 (O i 19), .int .i64 (O i 20), .int .i64 (O i 21)] rfl rfl (by kernel_rfl) rfl (by simp [Value.oneCell']) ?_))
      obtain ⟨wb, hwb⟩ : ∃ wb, wr.alloc (.cells #[.int .i64 (O i 0), .int .i64 (O i 1), .int .i64 (O i 2), .int .i64 (O i 3), .int .i64 (O i 4), .int .i64 (O i 5), .int .i64 (O i 6), .int .i64 (O i 7), .int .i64 (O i 8), .int .i64 (O i 9), .int .i64 (O i 10), .int .i64 (O i 11), .slice wa lw cw, .slice ba lb cb, .int .i64 (O i 14), .int .i64 (O i 15), .int .i64 (O i 16), .int .i64 (O i 17), .int .i64 (O i 18), .int .i64 (O i 19), .int .i64 (O i 20), .int .i64 (O i 21)] 70) = wb := ⟨_, rfl⟩
      rw [hwb] at sb D0 ⊢
      clear hwb hcell' c1 f1 c2 f2
      obtain ⟨c1, f1, zb1, c2, f2, zb2, c3, f3, zb3, -⟩ := sb.rules
      go_upto_region 6 with (at_builtin; refine wpList_appB kt_i16 rfl (.tmp 13) (.tmp 15) rfl W.heap.size (.slice (some ⟨wb.heap.size, 0, none⟩) 0 0) (Z i) rfl (lit0 wb W.heap.size (by omega)) wa lw cw rfl ((HZ.out.below D0).below (bal _ _)) rz (by simp; omega) ?_; intro v1 w5 hO1 hg; obtain ⟨wa', cw', rfl⟩ := hO1.len2 HZ.out.1; have s5 := sb.call (app_below hg); have D1 := bt D0 (app_below hg); clear hg sb D0 c1 f1 c2 f2 c3 f3; obtain ⟨c1, f1, zc1, c2, f2, zc2, c3, f3, zc3, -⟩ := s5.rules)
      have s6 := s5.seti (i := 12) (v := .slice wa' lw cw') (by simp; omega) #[.int .i64 (O i 0), .int .i64 (O i 1), .int .i64 (O i 2), .int .i64 (O i 3), .int .i64 (O i 4), .int .i64 (O i 5), .int .i64 (O i 6), .int .i64 (O i 7), .int .i64 (O i 8), .int .i64 (O i 9), .int .i64 (O i 10), .int .i64 (O i 11), .slice wa' lw cw', .slice ba lb cb, .int .i64 (O i 14), .int .i64 (O i 15), .int .i64 (O i 16), .int .i64 (O i 17), .int .i64 (O i 18), .int .i64 (O i 19), .int .i64 (O i 20), .int .i64 (O i 21)] (by simp)
      have D2 := D1.setCell (p := ⟨wr.heap.size, 12, none⟩) (Nat.le_refl _) (.slice wa' lw cw')
      have hO2 := hO1.grown (grown_set w5 wr.heap.size 12 (.slice wa' lw cw')) (fun b e cc => by cases e; rw [s5.h1]; simp)
      obtain ⟨w6, hw6⟩ : ∃ w6, w5.setCell ⟨wr.heap.size, 12, none⟩ (.slice wa' lw cw') = w6 := ⟨_, rfl⟩
      rw [hw6] at s6 D2 hO2 ⊢
      clear hw6 hO1 D1 s5 c1 f1 c2 f2 c3 f3
      obtain ⟨c1, f1, zd1, c2, f2, zd2, c3, f3, zd3, -⟩ := s6.rules
      go_upto_region 7 with (at_builtin; refine wpList_appB kt_i32 rfl (.tmp 18) (.tmp 20) rfl W.heap.size (.slice (some ⟨w6.heap.size, 0, none⟩) 0 0) (B i) rfl (lit0 w6 W.heap.size (by omega)) ba lb cb rfl ((HB.out.below D2).below (bal _ _)) rb (by simp; omega) ?_; intro v1 w7 hO3 hg; obtain ⟨ba', cb', rfl⟩ := hO3.len2 HB.out.1; have s7 := s6.call (app_below hg); have D3 := bt D2 (app_below hg); have hO4 := hO2.below (app_below hg); clear hg s6 D2 hO2 c1 f1 c2 f2 c3 f3; obtain ⟨c1, f1, ze1, c2, f2, ze2, c3, f3, ze3, -⟩ := s7.rules)
      have s8 := s7.seti (i := 13) (v := .slice ba' lb cb') (by simp; omega) #[.int .i64 (O i 0), .int .i64 (O i 1), .int .i64 (O i 2), .int .i64 (O i 3), .int .i64 (O i 4), .int .i64 (O i 5), .int .i64 (O i 6), .int .i64 (O i 7), .int .i64 (O i 8), .int .i64 (O i 9), .int .i64 (O i 10), .int .i64 (O i 11), .slice wa' lw cw', .slice ba' lb cb', .int .i64 (O i 14), .int .i64 (O i 15), .int .i64 (O i 16), .int .i64 (O i 17), .int .i64 (O i 18), .int .i64 (O i 19), .int .i64 (O i 20), .int .i64 (O i 21)] (by simp)
      have D4 := D3.setCell (p := ⟨wr.heap.size, 13, none⟩) (Nat.le_refl _) (.slice ba' lb cb')
      have hO5 := hO3.grown (grown_set w7 wr.heap.size 13 (.slice ba' lb cb')) (fun b e cc => by cases e; rw [s7.h1]; simp)
      have hO6 := hO4.grown (grown_set w7 wr.heap.size 13 (.slice ba' lb cb')) (fun b e cc => by cases e; rw [s7.h1]; simp)
      obtain ⟨w8, hw8⟩ : ∃ w8, w7.setCell ⟨wr.heap.size, 13, none⟩ (.slice ba' lb cb') = w8 := ⟨_, rfl⟩
      rw [hw8] at s8 D4 hO5 hO6 ⊢
      clear hw8 hO3 hO4 D3 s7 c1 f1 c2 f2 c3 f3
      have zw8 := s8.size
      have s9 := s8.new (c := #[.int .i64 (O i 0), .int .i64 (O i 1), .int .i64 (O i 2), .int .i64 (O i 3), .int .i64 (O i 4), .int .i64 (O i 5), .int .i64 (O i 6), .int .i64 (O i 7), .int .i64 (O i 8), .int .i64 (O i 9), .int .i64 (O i 10), .int .i64 (O i 11), .slice wa' lw cw', .slice ba' lb cb', .int .i64 (O i 14), .int .i64 (O i 15), .int .i64 (O i 16), .int .i64 (O i 17), .int .i64 (O i 18), .int .i64 (O i 19), .int .i64 (O i 20), .int .i64 (O i 21)]) (t := 70)
      obtain ⟨xs, hxs, hall⟩ := (HC.out.below D4).below (bal w8 (.cells #[.int .i64 (O i 0), .int .i64 (O i 1), .int .i64 (O i 2), .int .i64 (O i 3), .int .i64 (O i 4), .int .i64 (O i 5), .int .i64 (O i 6), .int .i64 (O i 7), .int .i64 (O i 8), .int .i64 (O i 9), .int .i64 (O i 10), .int .i64 (O i 11), .slice wa' lw cw', .slice ba' lb cb', .int .i64 (O i 14), .int .i64 (O i 15), .int .i64 (O i 16), .int .i64 (O i 17), .int .i64 (O i 18), .int .i64 (O i 19), .int .i64 (O i 20), .int .i64 (O i 21)] 70))
      have HX : Hid (World.ownsRow _ _ _ _ _ _ _) := hxs
      have HA : Hid (∀ q, q < i → _) := hall
      have H5 : Hid (Own .i32 _ _ _ _ _) := hO5.below (bal w8 (.cells #[.int .i64 (O i 0), .int .i64 (O i 1), .int .i64 (O i 2), .int .i64 (O i 3), .int .i64 (O i 4), .int .i64 (O i 5), .int .i64 (O i 6), .int .i64 (O i 7), .int .i64 (O i 8), .int .i64 (O i 9), .int .i64 (O i 10), .int .i64 (O i 11), .slice wa' lw cw', .slice ba' lb cb', .int .i64 (O i 14), .int .i64 (O i 15), .int .i64 (O i 16), .int .i64 (O i 17), .int .i64 (O i 18), .int .i64 (O i 19), .int .i64 (O i 20), .int .i64 (O i 21)] 70))
      have H6 : Hid (Own .i16 _ _ _ _ _) := hO6.below (bal w8 (.cells #[.int .i64 (O i 0), .int .i64 (O i 1), .int .i64 (O i 2), .int .i64 (O i 3), .int .i64 (O i 4), .int .i64 (O i 5), .int .i64 (O i 6), .int .i64 (O i 7), .int .i64 (O i 8), .int .i64 (O i 9), .int .i64 (O i 10), .int .i64 (O i 11), .slice wa' lw cw', .slice ba' lb cb', .int .i64 (O i 14), .int .i64 (O i 15), .int .i64 (O i 16), .int .i64 (O i 17), .int .i64 (O i 18), .int .i64 (O i 19), .int .i64 (O i 20), .int .i64 (O i 21)] 70))
      have HCC : Hid (CRow _ _ _ _ _ _ _) := (HC.out.below D4).below (bal w8 (.cells #[.int .i64 (O i 0), .int .i64 (O i 1), .int .i64 (O i 2), .int .i64 (O i 3), .int .i64 (O i 4), .int .i64 (O i 5), .int .i64 (O i 6), .int .i64 (O i 7), .int .i64 (O i 8), .int .i64 (O i 9), .int .i64 (O i 10), .int .i64 (O i 11), .slice wa' lw cw', .slice ba' lb cb', .int .i64 (O i 14), .int .i64 (O i 15), .int .i64 (O i 16), .int .i64 (O i 17), .int .i64 (O i 18), .int .i64 (O i 19), .int .i64 (O i 20), .int .i64 (O i 21)] 70))
      have H12 : Hid (O i 12 = (lw : Int)) := e12
      have H13 : Hid (O i 13 = (lb : Int)) := e13
      obtain ⟨i0, hi1, hz0, hz1, hz2⟩ := info_parts (show (Try.prog.info? 70).map (fun i => (i.zero, i.size, i.bytes)) = some (some (.agg #[.int .i64 0, .int .i64 0, .int .i64 0, .int .i64 0, .int .i64 0, .int .i64 0, .int .i64 0, .int .i64 0, .int .i64 0, .int .i64 0, .int .i64 0, .int .i64 0, .slice none 0 0, .slice none 0 0, .int .i64 0, .int .i64 0, .int .i64 0, .int .i64 0, .int .i64 0, .int .i64 0, .int .i64 0, .int .i64 0]), 22, 208) by kernel_rfl)
      clear hO5 hO6 hxs hall e12 e13 HZ HB
      go_upto_region 8 with (first
        | (refine wpList_load_row rfl 70 (.tmp 5) rfl _ rfl 70 _ (0, 0) _ s8.h1 Try.underlying70 rfl (by kernel_rfl) ?_)
        | (at_builtin; refine wpList_append_own _ rfl (.tmp 23) (.tmp 25) 24 rfl W.heap.size 70 i0 _ 22 208 Try.underlying24 hi1 hz0 hz1 hz2 rfl (by decide) (.slice va i vc) i xs rfl HX.out ⟨w8.heap.size, 0, none⟩ 1 1 (opl (O i) wa' lw cw' ba' lb cb') rfl rfl new22 (opl_one _ _ _ _ _ _ _) (by unfold maxLen; omega) (by omega) (by simp; omega) ?_; intro v2 w9 hown hgr hnn; have hC2 := HCC.out.add hgr H12.out H13.out H6.out H5.out rz rb xs HX.out HA.out hown; have s10 := s9.tail.tail.grown hgr (fun b e => (HX.out.lt b e).1) (fun y hy => by simp only [List.mem_cons, List.not_mem_nil, or_false] at hy; rcases hy with rfl | rfl; exact own_ne HX.out s9.h3 (by decide); exact own_ne HX.out s9.h4 (by decide)); obtain ⟨va2, vc2, rfl⟩ := hC2.slice; clear hown hgr hnn s9))
      have HC2 : Hid (CRow w9 W.heap.size (.slice va2 (i + 1) vc2) (i + 1) O Z B) := hC2
      have Hs10 : Hid (St W w9 _) := s10
      clear hC2 s10
      go_wp2
      go_round
      case rel => exact ⟨i + 1, by omega, by go_num, HC2.out, Hs10.out⟩
      case measure => simp [intOf]; omega
theorem rcost_any (h w c lo hi ot : Int) (oa : Option Addr) (on oc : Nat) (O : Nat → Nat → Int) (Z B : Nat → List Int) (ra : Option Addr) (rn rc : Nat) (R : List (Int × Int)) (pa : Option Addr) (pn pc : Nat) (P : List (List Pl)) (W : World) (hL : LRow W oa on oc O Z B) (hon : on ≤ 1000000000000) (hR : ERow 2 scs W ra rn rc R) (hP : QRow W pa pn pc P) (hrn : rn ≤ 140737488351232) (hpn : pn ≤ 140737488351232) (Re Ra Rw : Int) (RL : List (Int × Int × Int)) (hG : gtR O h w c lo hi ot on = (Re, Ra, RL, Rw)) (x1 x2 x3 : Int) (hX : foE Re Ra on (nuP O RL) R P = (x1, x2, x3)) (y1 y2 y3 y4 e1 e2 e3 : Int) (hY : csE (x1, x2, x3) (leN O RL) (poN RL) P = ((y1, y2, y3, y4), e1, e2, e3)) :
    Calls Try.prog 10 #[.agg #[.int .i64 h, .int .i64 w, .int .i64 c, .int .i64 lo, .int .i64 hi, .slice oa on oc, .int .i64 ot], .agg #[.slice ra rn rc, .slice pa pn pc]] W fun e w' => e = .returned (.tuple #[.agg #[.int .i64 y1, .int .i64 y2, .int .i64 y3, .int .i64 y4, .int .i64 0, .int .i64 0, .int .i64 0, .int .i64 0, .int .i64 0], .agg #[.int .i64 e1, .int .i64 e2, .int .i64 e3]]) ∧ Below W.heap.size W w' := by
  by_cases h0 : x1 = 0
  · subst h0
    have ht : Re = 0 → Ra = 0 := fun e => by subst e; exact (gtR_st hG).2.1
    obtain ⟨q1, rfl, q3, q4, -, -⟩ := foE_0 (show (foE Re Ra on (nuP O RL) R P).1 = 0 by rw [hX]) ht
    obtain rfl : Ra = 0 := ht rfl
    rw [hX] at q1
    simp only [Prod.mk.injEq, true_and] at q1
    obtain ⟨rfl, rfl⟩ := q1
    obtain rfl : on = pn := by rw [← q4, hP.1]
    unfold csE at hY
    rw [if_neg (by simp)] at hY
    exact rcost_w h w c lo hi ot oa on oc O Z B ra rn rc R pa pc P W hL hR hP hrn Rw RL hG hX y1 y2 y3 y4 e1 e2 e3 hY
  · unfold csE at hY
    rw [if_pos (by simpa using h0)] at hY
    simp only [Prod.mk.injEq] at hY
    obtain ⟨⟨rfl, rfl, rfl, rfl⟩, rfl, rfl, rfl⟩ := hY
    exact rcost_f h w c lo hi ot oa on oc O Z B ra rn rc R pa pn pc P W hL hon hR hP hrn hpn Re Ra Rw RL hG x1 x2 x3 hX h0
end Go.Proofs.Ytcjnhchjikcigaa

/- The walk of CertForms. -/
namespace Go.Proofs.Ytcjnhchjikcigaa
open Go.ChangeShapes Go.WideShapes Go.ChangeAt Go.RowKit
set_option linter.unusedVariables false
def Qz (M : Act → World → Prop) : Exit → Act → World → Prop
  | .normal, a, w => M a w
  | _, _, _ => False
/-- A region that draws its order: where all its orders meet. -/
theorem regionZ {P : Program} {ops : Array Oper} {Q : Exit → Act → World → Prop} {id : Nat} {a : Act} {w : World} (C : World → Prop) (M : Act → Act → World → Prop) (hm : P.follows .mixedOrders = true) (g : wpAnyC Fence.wide 3 P .any ops C (Qz (M a)) ops.size (Array.replicate ops.size false) a w.drew) (h : ∀ a' w, M a a' w → Q .normal a' w) : (Code.region id ops true).wp P Q a w :=
  (wpIn_wide (n := 3)).1 (wpIn_mono (wpIn_region_any hm (any_of_C _ _ _ _ g)) (fun e a w q => by cases e <;> first | exact h _ _ q | exact q.elim))
section
variable {P : Program} {ops : Array Oper} {md : Region.Mode} {C : World → Prop} {Q : Exit → Act → World → Prop} {fuel : Nat} {listed : Array Bool} {a : Act} {w : World} {o : Oper}
/-- Three that may come up, in whatever order. -/
theorem z3 (i j k : Nat) (hC : C w) (hr : Region.ready md ops listed = [i, j, k])
    (h1 : wpOpIn Fence.wide 3 P ops Q i (wpAnyC Fence.wide 3 P md ops C Q fuel (listed.setIfInBounds i true)) a w)
    (h2 : wpOpIn Fence.wide 3 P ops Q j (wpAnyC Fence.wide 3 P md ops C Q fuel (listed.setIfInBounds j true)) a w)
    (h3 : wpOpIn Fence.wide 3 P ops Q k (wpAnyC Fence.wide 3 P md ops C Q fuel (listed.setIfInBounds k true)) a w) : wpAnyC Fence.wide 3 P md ops C Q (fuel + 1) listed a w :=
  ⟨hC, fun h0 => (by rw [hr] at h0; cases h0), fun q hq => by
    rw [hr] at hq
    simp only [List.mem_cons, List.not_mem_nil, or_false] at hq
    rcases hq with rfl | rfl | rfl
    · exact h1
    · exact h2
    · exact h3⟩
theorem z1 (i : Nat) (hC : C w) (hr : Region.ready md ops listed = [i])
    (h1 : wpOpIn Fence.wide 3 P ops Q i (wpAnyC Fence.wide 3 P md ops C Q fuel (listed.setIfInBounds i true)) a w) : wpAnyC Fence.wide 3 P md ops C Q (fuel + 1) listed a w :=
  ⟨hC, fun h0 => (by rw [hr] at h0; cases h0), fun q hq => by
    rw [hr] at hq
    obtain rfl : q = i := by simpa using hq
    exact h1⟩
/-- A store of a whole struct. -/
theorem zS (i : Nat) (hC : C w) (hr : Region.ready md ops listed = [i]) (ho : ops[i]? = some o) (hg : o.guard = none)
    (ty : TypeId) (x y : Operand) (hop : o.op = .store ty x y) (g : Nat) (cells : Array Value) (hx : a.eval x = .pointer (some ⟨g, 0, none⟩)) (hy : a.eval y = .agg cells) (t : TypeId) (old : Array Value) (hh : w.heap[g]? = some (.cells old t (0, 0))) (hi : (P.info? ty).map (·.size) = some cells.size) (hold : old.size = cells.size) (h1 : cells.all (·.oneCell') = true)
    (h : wpAnyC Fence.wide 3 P md ops C Q fuel (listed.setIfInBounds i true) (a.put o.dst undef) (w.setRow g cells)) : wpAnyC Fence.wide 3 P md ops C Q (fuel + 1) listed a w :=
  stepC i hC hr ho fun K hK => step_wp hg (wp_store_row ty x y hop g cells hx hy t old hh hi hold h1 (hK _ _ h))
end
/-- A block is written: what lies in blocks of other types stays. -/
theorem row_keep {w : World} {B : Nat} {cs d : Array Value} {T : TypeId} (h : w.heap[B]? = some (.cells cs T (0, 0))) : ∀ (g : Nat) (c : Array Value) (t : TypeId), t ≠ T → w.heap[g]? = some (.cells c t (0, 0)) → (w.setRow B d).heap[g]? = some (.cells c t (0, 0)) := fun g c t ht hg => by
  rw [setRow_other w B g d (ne_of_ty hg h ht)]
  exact hg
theorem QOwn.keep {w w' : World} {base : Nat} {v : Value} {P : List (List Pl)} (h : QOwn w base v P) (q : ∀ (g : Nat) (c : Array Value) (t : TypeId), t = 56 ∨ t = 61 → w.heap[g]? = some (.cells c t (0, 0)) → w'.heap[g]? = some (.cells c t (0, 0))) : QOwn w' base v P := by
  obtain ⟨f, h1, h2, h3⟩ := h
  exact ⟨f, owns_other h1 (fun g c => q g c _ (.inl rfl)), fun i l hl => ⟨owns_other (h2 i l hl).1 (fun g c => q g c _ (.inr rfl)), (h2 i l hl).2⟩, h3⟩
theorem CRow.keep {w w' : World} {base : Nat} {v : Value} {i : Nat} {O : Nat → Nat → Int} {Z B : Nat → List Int} (h : CRow w base v i O Z B) (q : ∀ (g : Nat) (c : Array Value) (t : TypeId), t = 70 ∨ t = 102 ∨ t = 21 → w.heap[g]? = some (.cells c t (0, 0)) → w'.heap[g]? = some (.cells c t (0, 0))) : CRow w' base v i O Z B := by
  obtain ⟨xs, h1, h2⟩ := h
  refine ⟨xs, owns_other h1 (fun g c => q g c _ (.inl rfl)), fun r hr => ?_⟩
  obtain ⟨wa, lw, cw, ba, lb, cb, e1, e2, e3, e4, e5, e6⟩ := h2 r hr
  exact ⟨wa, lw, cw, ba, lb, cb, e1, e2, e3, ⟨owns_other e4.1 (fun g c => q g c _ (.inr (.inl rfl))), e4.2⟩, ⟨owns_other e5.1 (fun g c => q g c _ (.inr (.inr rfl))), e5.2⟩, e6⟩
theorem cr_base {w : World} {b c : Nat} {v : Value} {i : Nat} {O : Nat → Nat → Int} {Z B : Nat → List Int} (h : CRow w b v i O Z B) (q : c ≤ b) : CRow w c v i O Z B := by
  obtain ⟨xs, h1, h2⟩ := h
  refine ⟨xs, owns_base h1 q, fun r hr => ?_⟩
  obtain ⟨wa, lw, cw, ba, lb, cb, e1, e2, e3, e4, e5, e6⟩ := h2 r hr
  exact ⟨wa, lw, cw, ba, lb, cb, e1, e2, e3, e4.base q, e5.base q, e6⟩
theorem eqT9 (y1 y2 y3 y4 : Int) : ∀ W, (binOp .eql 36 (.agg #[.int .i64 y1, .int .i64 y2, .int .i64 y3, .int .i64 y4, .int .i64 0, .int .i64 0, .int .i64 0, .int .i64 0, .int .i64 0]) (.agg #[.int .i64 y1, .int .i64 y2, .int .i64 y3, .int .i64 y4, .int .i64 0, .int .i64 0, .int .i64 0, .int .i64 0, .int .i64 0])).run Try.prog W = .ok (.bool true) W := by
  intro W; simp [go_sem]
theorem eqF3 (e1 e2 e3 : Int) : ∀ W, (binOp .eql 39 (.agg #[.int .i64 e1, .int .i64 e2, .int .i64 e3]) (.agg #[.int .i64 e1, .int .i64 e2, .int .i64 e3])).run Try.prog W = .ok (.bool true) W := by
  intro W; simp [go_sem]
set_option maxHeartbeats 16000000 in
set_option maxRecDepth 100000 in
theorem certForms_w (h w c lo hi ot : Int) (oa : Option Addr) (on oc : Nat) (O : Nat → Nat → Int) (Z B : Nat → List Int) (ra : Option Addr) (rn rc : Nat) (R : List (Int × Int)) (pa : Option Addr) (pn pc : Nat) (P : List (List Pl)) (W : World) (hL : LRow W oa on oc O Z B) (hr : on * 208 ≤ 140737488351232) (hR : ERow 2 scs W ra rn rc R) (hP : QRow W pa pn pc P) (hrn : rn * 16 ≤ 140737488351232) (hpn : pn * 24 ≤ 140737488351232) :
    Calls Try.prog 3 #[.agg #[.int .i64 h, .int .i64 w, .int .i64 c, .int .i64 lo, .int .i64 hi, .slice oa on oc, .int .i64 ot, .slice ra rn rc, .slice pa pn pc]] W fun e w' => e = .returned (.bool true) ∧ Below W.heap.size W w' := by
  obtain ⟨Re, Ra, RL, Rw, hG⟩ : ∃ Re Ra RL Rw, gtR O h w c lo hi ot on = (Re, Ra, RL, Rw) := ⟨_, _, _, _, rfl⟩
  obtain ⟨x1, x2, x3, hX⟩ : ∃ x1 x2 x3, foE Re Ra on (nuP O RL) R P = (x1, x2, x3) := ⟨_, _, _, rfl⟩
  obtain ⟨y1, y2, y3, y4, e1, e2, e3, hY⟩ : ∃ y1 y2 y3 y4 e1 e2 e3, csE (x1, x2, x3) (leN O RL) (poN RL) P = ((y1, y2, y3, y4), e1, e2, e3) := ⟨_, _, _, _, _, _, _, rfl⟩
  have A1 : Hid (∀ w', Below W.heap.size W w' → _) := fun w' hb => copy_own h w c lo hi ot oa on oc O Z B w' (hL.below hb) hr
  have A2 : Hid (∀ w', Below W.heap.size W w' → _) := fun w' hb => ccopy_any ra rn rc R pa pn pc P w' (hR.below hb) (hP.below hb) hrn hpn
  have A3 : Hid (∀ w', Below W.heap.size W w' → _) := fun w' hb => ccost_any h w c lo hi ot oa on oc O Z B ra rn rc R pa pn pc P w' (hL.below hb) (hR.below hb) (hP.below hb) (by omega) (by omega) Re Ra Rw RL hG x1 x2 x3 hX y1 y2 y3 y4 e1 e2 e3 hY
  have A4 : Hid (∀ w' oa' oc' ra' rc' pa' pc', LRow w' oa' on oc' O Z B → ERow 2 scs w' ra' rn rc' R → QRow w' pa' pn pc' P → _) := fun w' oa' oc' ra' rc' pa' pc' hL' hR' hP' => rcost_any h w c lo hi ot oa' on oc' O Z B ra' rn rc' R pa' pn pc' P w' hL' (by omega) hR' hP' (by omega) (by omega) Re Ra Rw RL hG x1 x2 x3 hX y1 y2 y3 y4 e1 e2 e3 hY
  have A5 : Hid (∀ w', Below W.heap.size W w' → _) := fun w' hb => cform_any h w c lo hi ot oa on oc O ra rn rc R pa pn pc P w' (hL.m.below hb) (hR.below hb) (hP.below hb) (by omega) (by omega) Re Ra Rw RL hG x1 x2 x3 hX
  have A6 : Hid (∀ w' oa' oc' ra' rc' pa' pc', LRow w' oa' on oc' O Z B → ERow 2 scs w' ra' rn rc' R → QRow w' pa' pn pc' P → _) := fun w' oa' oc' ra' rc' pa' pc' hL' hR' hP' => rform_any h w c lo hi ot oa' on oc' O Z B ra' rn rc' R pa' pn pc' P w' hL' (by omega) hR' hP' (by omega) (by omega) Re Ra Rw RL hG x1 x2 x3 hX
  have A7 : Hid (∀ w' oa' oc', Below W.heap.size W w' → LRow w' oa' on oc' O Z B → _) := fun w' oa' oc' hb hL' => samem_any h w c lo hi ot oa oa' on oc oc' O Z B w' (hL.below hb) hL'
  have A8 : Hid (∀ w' ra' rc' pa' pc', Below W.heap.size W w' → ERow 2 scs w' ra' rn rc' R → QRow w' pa' pn pc' P → _) := fun w' ra' rc' pa' pc' hb hR' hP' => rsame_any ra rn rc R pa pn pc P ra' rn rc' R pa' pn pc' P w' (hR.below hb) (hP.below hb) hR' hP'
  rw [ceB_t] at A8
  have HRL : Hid (R.length = rn) := hR.1
  have qT := eqT9 y1 y2 y3 y4
  have qF := eqF3 e1 e2 e3
  have qX := eqF3 x1 x2 x3
  clear hG hX hY hL hR hP
  have s0 := (St.start W).new (c := #[.int .i64 h, .int .i64 w, .int .i64 c, .int .i64 lo, .int .i64 hi, .slice oa on oc, .int .i64 ot, .slice ra rn rc, .slice pa pn pc]) (t := 32)
  go_enter Try.func3, Try.ntmps3
  go_upto_region 1 with fail
  have S0 : Hid (St W _ [(W.heap.size, #[.int .i64 h, .int .i64 w, .int .i64 c, .int .i64 lo, .int .i64 hi, .slice oa on oc, .int .i64 ot, .slice ra rn rc, .slice pa pn pc], 32)]) := s0
  clear s0
  refine regionZ (fun w' => w'.heap[W.heap.size]? = some (.cells #[.int .i64 h, .int .i64 w, .int .i64 c, .int .i64 lo, .int .i64 hi, .slice oa on oc, .int .i64 ot, .slice ra rn rc, .slice pa pn pc] 32 (0, 0))) (fun a0 a' w' => ∃ (B3 B4 : Nat) (oa' : Option Addr) (oc' : Nat) (ra' : Option Addr) (rc' : Nat) (pa' : Option Addr) (pc' : Nat), a' = (((((((a0.put (some 9) (.pointer (some ⟨W.heap.size, 0, none⟩))).put (some 10) (.agg #[.int .i64 h, .int .i64 w, .int .i64 c, .int .i64 lo, .int .i64 hi, .slice oa on oc, .int .i64 ot])).put (some 11) (.agg #[.int .i64 h, .int .i64 w, .int .i64 c, .int .i64 lo, .int .i64 hi, .slice oa' on oc', .int .i64 ot])).put (some 12) (.pointer (some ⟨W.heap.size, 7, none⟩))).put (some 13) (.agg #[.slice ra rn rc, .slice pa pn pc])).put (some 14) (.agg #[.slice ra' rn rc', .slice pa' pn pc'])).put (some 3) (.pointer (some ⟨B3, 0, none⟩))).put (some 4) (.pointer (some ⟨B4, 0, none⟩)) ∧ St W w' ([(B4, #[.slice ra' rn rc', .slice pa' pn pc'], 30), (B3, #[.int .i64 h, .int .i64 w, .int .i64 c, .int .i64 lo, .int .i64 hi, .slice oa' on oc', .int .i64 ot], 26), (W.heap.size, #[.int .i64 h, .int .i64 w, .int .i64 c, .int .i64 lo, .int .i64 hi, .slice oa on oc, .int .i64 ot, .slice ra rn rc, .slice pa pn pc], 32)]) ∧ LRow w' oa' on oc' O Z B ∧ ERow 2 scs w' ra' rn rc' R ∧ QRow w' pa' pn pc' P) (by kernel_rfl) ?_ ?_
  · have s1 := S0.out.drew
    generalize World.drew _ = w1 at s1 ⊢
    refine takeC 0 (v := .pointer (some ⟨W.heap.size, 0, none⟩)) rfl rfl (by kernel_rfl) (by kernel_rfl) (by kernel_rfl) (fun _ _ _ h => h) (fun _ => by kernel_rfl) (by kernel_rfl) (fun w' hw' => by kernel_rfl) ?_
    refine takeC 1 (v := .agg #[.int .i64 h, .int .i64 w, .int .i64 c, .int .i64 lo, .int .i64 hi, .slice oa on oc, .int .i64 ot]) rfl rfl (by kernel_rfl) (by kernel_rfl) (by kernel_rfl) (fun _ _ _ h => h) (fun _ => by kernel_rfl) (by kernel_rfl) (fun w' hw' => run_la 26 (.tmp 9) rfl ⟨W.heap.size, 0, none⟩ (by kernel_rfl) [.int .i64 h, .int .i64 w, .int .i64 c, .int .i64 lo, .int .i64 hi, .slice oa on oc, .int .i64 ot] _ (part_cells hw' 0 [.int .i64 h, .int .i64 w, .int .i64 c, .int .i64 lo, .int .i64 hi, .slice oa on oc, .int .i64 ot] (sub_at [] [.int .i64 h, .int .i64 w, .int .i64 c, .int .i64 lo, .int .i64 hi, .slice oa on oc, .int .i64 ot] [.slice ra rn rc, .slice pa pn pc])) Try.underlying26 rfl (by kernel_rfl)) ?_
    refine takeC 3 (v := .pointer (some ⟨W.heap.size, 7, none⟩)) rfl rfl (by kernel_rfl) (by kernel_rfl) (by kernel_rfl) (fun _ _ _ h => h) (fun _ => by kernel_rfl) (by kernel_rfl) (fun w' hw' => by kernel_rfl) ?_
    refine takeC 4 (v := .agg #[.slice ra rn rc, .slice pa pn pc]) rfl rfl (by kernel_rfl) (by kernel_rfl) (by kernel_rfl) (fun _ _ _ h => h) (fun _ => by kernel_rfl) (by kernel_rfl) (fun w' hw' => run_la 30 (.tmp 12) rfl ⟨W.heap.size, 7, none⟩ (by kernel_rfl) [.slice ra rn rc, .slice pa pn pc] _ (part_cells hw' 7 [.slice ra rn rc, .slice pa pn pc] (sub_at [.int .i64 h, .int .i64 w, .int .i64 c, .int .i64 lo, .int .i64 hi, .slice oa on oc, .int .i64 ot] [.slice ra rn rc, .slice pa pn pc] [])) Try.underlying30 rfl (by kernel_rfl)) ?_
    refine z3 2 6 7 s1.h1 (by kernel_rfl) ?_ ?_ ?_
    · refine zC rfl rfl 7 #[.agg #[.int .i64 h, .int .i64 w, .int .i64 c, .int .i64 lo, .int .i64 hi, .slice oa on oc, .int .i64 ot]] (by kernel_rfl) (A1.out _ s1.below) ?_
      rintro e' w2 ⟨oa', oc', rfl, hq, hb⟩
      refine ⟨_, rfl, ?_⟩
      have s2 := s1.call hb
      have m2 := cr_base hq (c := W.heap.size) s1.size
      clear hb hq
      refine z3 5 6 7 s2.h1 (by kernel_rfl) ?_ ?_ ?_
      · refine zC rfl rfl 8 #[.agg #[.slice ra rn rc, .slice pa pn pc]] (by kernel_rfl) (A2.out _ s2.below) ?_
        rintro e' w3 ⟨ra', rc', pa', pc', rfl, hq1, hq2, hb⟩
        refine ⟨_, rfl, ?_⟩
        have s3 := s2.call hb
        have m3 := m2.below hb
        clear hb
        have c3 := hq1
        have q3 := hq2
        clear hq1 hq2
        refine z2 6 7 s3.h1 (by kernel_rfl) ?_ ?_
        · refine zO rfl rfl (.pointer (some ⟨w3.heap.size, 0, none⟩)) (w3.alloc (.cells #[.int .i64 0, .int .i64 0, .int .i64 0, .int .i64 0, .int .i64 0, .slice none 0 0, .int .i64 0] 26)) (by kernel_rfl) ?_
          have s4 := s3.new (c := #[.int .i64 0, .int .i64 0, .int .i64 0, .int .i64 0, .int .i64 0, .slice none 0 0, .int .i64 0]) (t := 26)
          have hb4 := bal w3 (.cells #[.int .i64 0, .int .i64 0, .int .i64 0, .int .i64 0, .int .i64 0, .slice none 0 0, .int .i64 0] 26)
          have m4 := m3.below hb4
          have c4 := owns_below c3 hb4
          have q4 := q3.below hb4
          clear hb4
          obtain ⟨B3, hB3⟩ : ∃ B, w3.heap.size = B := ⟨_, rfl⟩
          obtain ⟨w4, hw4⟩ : ∃ v, w3.alloc (.cells #[.int .i64 0, .int .i64 0, .int .i64 0, .int .i64 0, .int .i64 0, .slice none 0 0, .int .i64 0] 26) = v := ⟨_, rfl⟩
          rw [hw4, hB3] at s4
          rw [hw4, hB3]
          rw [hw4] at m4
          rw [hw4] at c4 q4
          clear hw4 hB3
          refine z1 7 s4.h2 (by kernel_rfl) ?_
          · refine zO rfl rfl (.pointer (some ⟨w4.heap.size, 0, none⟩)) (w4.alloc (.cells #[.slice none 0 0, .slice none 0 0] 30)) (by kernel_rfl) ?_
            have s5 := s4.new (c := #[.slice none 0 0, .slice none 0 0]) (t := 30)
            have hb5 := bal w4 (.cells #[.slice none 0 0, .slice none 0 0] 30)
            have m5 := m4.below hb5
            have c5 := owns_below c4 hb5
            have q5 := q4.below hb5
            clear hb5
            obtain ⟨B4, hB4⟩ : ∃ B, w4.heap.size = B := ⟨_, rfl⟩
            obtain ⟨w5, hw5⟩ : ∃ v, w4.alloc (.cells #[.slice none 0 0, .slice none 0 0] 30) = v := ⟨_, rfl⟩
            rw [hw5, hB4] at s5
            rw [hw5, hB4]
            rw [hw5] at m5
            rw [hw5] at c5 q5
            clear hw5 hB4
            have t1 := s5.sub (l' := [(B3, #[.int .i64 0, .int .i64 0, .int .i64 0, .int .i64 0, .int .i64 0, .slice none 0 0, .int .i64 0], 26), (B4, #[.slice none 0 0, .slice none 0 0], 30), (W.heap.size, #[.int .i64 h, .int .i64 w, .int .i64 c, .int .i64 lo, .int .i64 hi, .slice oa on oc, .int .i64 ot, .slice ra rn rc, .slice pa pn pc], 32)]) (by simp)
            refine zS 8 t1.h3 (by kernel_rfl) rfl rfl 26 (.tmp 3) (.tmp 11) rfl B3 #[.int .i64 h, .int .i64 w, .int .i64 c, .int .i64 lo, .int .i64 hi, .slice oa' on oc', .int .i64 ot] (by kernel_rfl) (by kernel_rfl) 26 #[.int .i64 0, .int .i64 0, .int .i64 0, .int .i64 0, .int .i64 0, .slice none 0 0, .int .i64 0] t1.h1 (by kernel_rfl) rfl (by simp [Value.oneCell']) ?_
            have u1 := m5.keep (w' := w5.setRow B3 #[.int .i64 h, .int .i64 w, .int .i64 c, .int .i64 lo, .int .i64 hi, .slice oa' on oc', .int .i64 ot]) (fun g c t ht => row_keep t1.h1 g c t (by rcases ht with rfl | rfl | rfl <;> decide))
            have u2 := owns_other c5 (w' := w5.setRow B3 #[.int .i64 h, .int .i64 w, .int .i64 c, .int .i64 lo, .int .i64 hi, .slice oa' on oc', .int .i64 ot]) (fun g c => row_keep t1.h1 g c _ (by decide))
            have u3 := q5.keep (w' := w5.setRow B3 #[.int .i64 h, .int .i64 w, .int .i64 c, .int .i64 lo, .int .i64 hi, .slice oa' on oc', .int .i64 ot]) (fun g c t ht => row_keep t1.h1 g c t (by rcases ht with rfl | rfl <;> decide))
            have t2 := (t1.row #[.int .i64 h, .int .i64 w, .int .i64 c, .int .i64 lo, .int .i64 hi, .slice oa' on oc', .int .i64 ot] (fun x hx => by simp only [List.mem_cons, List.not_mem_nil, or_false] at hx; rcases hx with rfl | rfl; exact ne_of_ty t1.h2 t1.h1 (by decide); exact ne_of_ty t1.h3 t1.h1 (by decide))).sub (l' := [(B4, #[.slice none 0 0, .slice none 0 0], 30), (B3, #[.int .i64 h, .int .i64 w, .int .i64 c, .int .i64 lo, .int .i64 hi, .slice oa' on oc', .int .i64 ot], 26), (W.heap.size, #[.int .i64 h, .int .i64 w, .int .i64 c, .int .i64 lo, .int .i64 hi, .slice oa on oc, .int .i64 ot, .slice ra rn rc, .slice pa pn pc], 32)]) (by simp)
            generalize World.setRow _ _ _ = v2 at u1 u2 u3 t2 ⊢
            refine zS 9 t2.h3 (by kernel_rfl) rfl rfl 30 (.tmp 4) (.tmp 14) rfl B4 #[.slice ra' rn rc', .slice pa' pn pc'] (by kernel_rfl) (by kernel_rfl) 30 #[.slice none 0 0, .slice none 0 0] t2.h1 (by kernel_rfl) rfl (by simp [Value.oneCell']) ?_
            have g1 := u1.keep (w' := v2.setRow B4 #[.slice ra' rn rc', .slice pa' pn pc']) (fun g c t ht => row_keep t2.h1 g c t (by rcases ht with rfl | rfl | rfl <;> decide))
            have g2 := owns_other u2 (w' := v2.setRow B4 #[.slice ra' rn rc', .slice pa' pn pc']) (fun g c => row_keep t2.h1 g c _ (by decide))
            have g3 := u3.keep (w' := v2.setRow B4 #[.slice ra' rn rc', .slice pa' pn pc']) (fun g c t ht => row_keep t2.h1 g c t (by rcases ht with rfl | rfl <;> decide))
            have t3 := t2.row #[.slice ra' rn rc', .slice pa' pn pc'] (fun x hx => by simp only [List.mem_cons, List.not_mem_nil, or_false] at hx; rcases hx with rfl | rfl; exact ne_of_ty t2.h2 t2.h1 (by decide); exact ne_of_ty t2.h3 t2.h1 (by decide))
            generalize World.setRow _ _ _ = v3 at g1 g2 g3 t3 ⊢
            exact doneC t3.h3 (by kernel_rfl) ⟨B3, B4, oa', oc', ra', rc', pa', pc', by kernel_rfl, t3, g1.l, owns_erow scs_len g2 HRL.out, g3.q⟩ _
        · refine zO rfl rfl (.pointer (some ⟨w3.heap.size, 0, none⟩)) (w3.alloc (.cells #[.slice none 0 0, .slice none 0 0] 30)) (by kernel_rfl) ?_
          have s7 := s3.new (c := #[.slice none 0 0, .slice none 0 0]) (t := 30)
          have hb7 := bal w3 (.cells #[.slice none 0 0, .slice none 0 0] 30)
          have m7 := m3.below hb7
          have c7 := owns_below c3 hb7
          have q7 := q3.below hb7
          clear hb7
          obtain ⟨B4, hB4⟩ : ∃ B, w3.heap.size = B := ⟨_, rfl⟩
          obtain ⟨w7, hw7⟩ : ∃ v, w3.alloc (.cells #[.slice none 0 0, .slice none 0 0] 30) = v := ⟨_, rfl⟩
          rw [hw7, hB4] at s7
          rw [hw7, hB4]
          rw [hw7] at m7
          rw [hw7] at c7 q7
          clear hw7 hB4
          refine z1 6 s7.h2 (by kernel_rfl) ?_
          · refine zO rfl rfl (.pointer (some ⟨w7.heap.size, 0, none⟩)) (w7.alloc (.cells #[.int .i64 0, .int .i64 0, .int .i64 0, .int .i64 0, .int .i64 0, .slice none 0 0, .int .i64 0] 26)) (by kernel_rfl) ?_
            have s8 := s7.new (c := #[.int .i64 0, .int .i64 0, .int .i64 0, .int .i64 0, .int .i64 0, .slice none 0 0, .int .i64 0]) (t := 26)
            have hb8 := bal w7 (.cells #[.int .i64 0, .int .i64 0, .int .i64 0, .int .i64 0, .int .i64 0, .slice none 0 0, .int .i64 0] 26)
            have m8 := m7.below hb8
            have c8 := owns_below c7 hb8
            have q8 := q7.below hb8
            clear hb8
            obtain ⟨B3, hB3⟩ : ∃ B, w7.heap.size = B := ⟨_, rfl⟩
            obtain ⟨w8, hw8⟩ : ∃ v, w7.alloc (.cells #[.int .i64 0, .int .i64 0, .int .i64 0, .int .i64 0, .int .i64 0, .slice none 0 0, .int .i64 0] 26) = v := ⟨_, rfl⟩
            rw [hw8, hB3] at s8
            rw [hw8, hB3]
            rw [hw8] at m8
            rw [hw8] at c8 q8
            clear hw8 hB3
            have t1 := s8.sub (l' := [(B3, #[.int .i64 0, .int .i64 0, .int .i64 0, .int .i64 0, .int .i64 0, .slice none 0 0, .int .i64 0], 26), (B4, #[.slice none 0 0, .slice none 0 0], 30), (W.heap.size, #[.int .i64 h, .int .i64 w, .int .i64 c, .int .i64 lo, .int .i64 hi, .slice oa on oc, .int .i64 ot, .slice ra rn rc, .slice pa pn pc], 32)]) (by simp)
            refine zS 8 t1.h3 (by kernel_rfl) rfl rfl 26 (.tmp 3) (.tmp 11) rfl B3 #[.int .i64 h, .int .i64 w, .int .i64 c, .int .i64 lo, .int .i64 hi, .slice oa' on oc', .int .i64 ot] (by kernel_rfl) (by kernel_rfl) 26 #[.int .i64 0, .int .i64 0, .int .i64 0, .int .i64 0, .int .i64 0, .slice none 0 0, .int .i64 0] t1.h1 (by kernel_rfl) rfl (by simp [Value.oneCell']) ?_
            have u1 := m8.keep (w' := w8.setRow B3 #[.int .i64 h, .int .i64 w, .int .i64 c, .int .i64 lo, .int .i64 hi, .slice oa' on oc', .int .i64 ot]) (fun g c t ht => row_keep t1.h1 g c t (by rcases ht with rfl | rfl | rfl <;> decide))
            have u2 := owns_other c8 (w' := w8.setRow B3 #[.int .i64 h, .int .i64 w, .int .i64 c, .int .i64 lo, .int .i64 hi, .slice oa' on oc', .int .i64 ot]) (fun g c => row_keep t1.h1 g c _ (by decide))
            have u3 := q8.keep (w' := w8.setRow B3 #[.int .i64 h, .int .i64 w, .int .i64 c, .int .i64 lo, .int .i64 hi, .slice oa' on oc', .int .i64 ot]) (fun g c t ht => row_keep t1.h1 g c t (by rcases ht with rfl | rfl <;> decide))
            have t2 := (t1.row #[.int .i64 h, .int .i64 w, .int .i64 c, .int .i64 lo, .int .i64 hi, .slice oa' on oc', .int .i64 ot] (fun x hx => by simp only [List.mem_cons, List.not_mem_nil, or_false] at hx; rcases hx with rfl | rfl; exact ne_of_ty t1.h2 t1.h1 (by decide); exact ne_of_ty t1.h3 t1.h1 (by decide))).sub (l' := [(B4, #[.slice none 0 0, .slice none 0 0], 30), (B3, #[.int .i64 h, .int .i64 w, .int .i64 c, .int .i64 lo, .int .i64 hi, .slice oa' on oc', .int .i64 ot], 26), (W.heap.size, #[.int .i64 h, .int .i64 w, .int .i64 c, .int .i64 lo, .int .i64 hi, .slice oa on oc, .int .i64 ot, .slice ra rn rc, .slice pa pn pc], 32)]) (by simp)
            generalize World.setRow _ _ _ = v2 at u1 u2 u3 t2 ⊢
            refine zS 9 t2.h3 (by kernel_rfl) rfl rfl 30 (.tmp 4) (.tmp 14) rfl B4 #[.slice ra' rn rc', .slice pa' pn pc'] (by kernel_rfl) (by kernel_rfl) 30 #[.slice none 0 0, .slice none 0 0] t2.h1 (by kernel_rfl) rfl (by simp [Value.oneCell']) ?_
            have g1 := u1.keep (w' := v2.setRow B4 #[.slice ra' rn rc', .slice pa' pn pc']) (fun g c t ht => row_keep t2.h1 g c t (by rcases ht with rfl | rfl | rfl <;> decide))
            have g2 := owns_other u2 (w' := v2.setRow B4 #[.slice ra' rn rc', .slice pa' pn pc']) (fun g c => row_keep t2.h1 g c _ (by decide))
            have g3 := u3.keep (w' := v2.setRow B4 #[.slice ra' rn rc', .slice pa' pn pc']) (fun g c t ht => row_keep t2.h1 g c t (by rcases ht with rfl | rfl <;> decide))
            have t3 := t2.row #[.slice ra' rn rc', .slice pa' pn pc'] (fun x hx => by simp only [List.mem_cons, List.not_mem_nil, or_false] at hx; rcases hx with rfl | rfl; exact ne_of_ty t2.h2 t2.h1 (by decide); exact ne_of_ty t2.h3 t2.h1 (by decide))
            generalize World.setRow _ _ _ = v3 at g1 g2 g3 t3 ⊢
            exact doneC t3.h3 (by kernel_rfl) ⟨B3, B4, oa', oc', ra', rc', pa', pc', by kernel_rfl, t3, g1.l, owns_erow scs_len g2 HRL.out, g3.q⟩ _
      · refine zO rfl rfl (.pointer (some ⟨w2.heap.size, 0, none⟩)) (w2.alloc (.cells #[.int .i64 0, .int .i64 0, .int .i64 0, .int .i64 0, .int .i64 0, .slice none 0 0, .int .i64 0] 26)) (by kernel_rfl) ?_
        have s10 := s2.new (c := #[.int .i64 0, .int .i64 0, .int .i64 0, .int .i64 0, .int .i64 0, .slice none 0 0, .int .i64 0]) (t := 26)
        have hb10 := bal w2 (.cells #[.int .i64 0, .int .i64 0, .int .i64 0, .int .i64 0, .int .i64 0, .slice none 0 0, .int .i64 0] 26)
        have m10 := m2.below hb10
        clear hb10
        obtain ⟨B3, hB3⟩ : ∃ B, w2.heap.size = B := ⟨_, rfl⟩
        obtain ⟨w10, hw10⟩ : ∃ v, w2.alloc (.cells #[.int .i64 0, .int .i64 0, .int .i64 0, .int .i64 0, .int .i64 0, .slice none 0 0, .int .i64 0] 26) = v := ⟨_, rfl⟩
        rw [hw10, hB3] at s10
        rw [hw10, hB3]
        rw [hw10] at m10
        clear hw10 hB3
        refine z2 5 7 s10.h2 (by kernel_rfl) ?_ ?_
        · refine zC rfl rfl 8 #[.agg #[.slice ra rn rc, .slice pa pn pc]] (by kernel_rfl) (A2.out _ s10.below) ?_
          rintro e' w11 ⟨ra', rc', pa', pc', rfl, hq1, hq2, hb⟩
          refine ⟨_, rfl, ?_⟩
          have s11 := s10.call hb
          have m11 := m10.below hb
          clear hb
          have c11 := hq1
          have q11 := hq2
          clear hq1 hq2
          refine z1 7 s11.h2 (by kernel_rfl) ?_
          · refine zO rfl rfl (.pointer (some ⟨w11.heap.size, 0, none⟩)) (w11.alloc (.cells #[.slice none 0 0, .slice none 0 0] 30)) (by kernel_rfl) ?_
            have s12 := s11.new (c := #[.slice none 0 0, .slice none 0 0]) (t := 30)
            have hb12 := bal w11 (.cells #[.slice none 0 0, .slice none 0 0] 30)
            have m12 := m11.below hb12
            have c12 := owns_below c11 hb12
            have q12 := q11.below hb12
            clear hb12
            obtain ⟨B4, hB4⟩ : ∃ B, w11.heap.size = B := ⟨_, rfl⟩
            obtain ⟨w12, hw12⟩ : ∃ v, w11.alloc (.cells #[.slice none 0 0, .slice none 0 0] 30) = v := ⟨_, rfl⟩
            rw [hw12, hB4] at s12
            rw [hw12, hB4]
            rw [hw12] at m12
            rw [hw12] at c12 q12
            clear hw12 hB4
            have t1 := s12.sub (l' := [(B3, #[.int .i64 0, .int .i64 0, .int .i64 0, .int .i64 0, .int .i64 0, .slice none 0 0, .int .i64 0], 26), (B4, #[.slice none 0 0, .slice none 0 0], 30), (W.heap.size, #[.int .i64 h, .int .i64 w, .int .i64 c, .int .i64 lo, .int .i64 hi, .slice oa on oc, .int .i64 ot, .slice ra rn rc, .slice pa pn pc], 32)]) (by simp)
            refine zS 8 t1.h3 (by kernel_rfl) rfl rfl 26 (.tmp 3) (.tmp 11) rfl B3 #[.int .i64 h, .int .i64 w, .int .i64 c, .int .i64 lo, .int .i64 hi, .slice oa' on oc', .int .i64 ot] (by kernel_rfl) (by kernel_rfl) 26 #[.int .i64 0, .int .i64 0, .int .i64 0, .int .i64 0, .int .i64 0, .slice none 0 0, .int .i64 0] t1.h1 (by kernel_rfl) rfl (by simp [Value.oneCell']) ?_
            have u1 := m12.keep (w' := w12.setRow B3 #[.int .i64 h, .int .i64 w, .int .i64 c, .int .i64 lo, .int .i64 hi, .slice oa' on oc', .int .i64 ot]) (fun g c t ht => row_keep t1.h1 g c t (by rcases ht with rfl | rfl | rfl <;> decide))
            have u2 := owns_other c12 (w' := w12.setRow B3 #[.int .i64 h, .int .i64 w, .int .i64 c, .int .i64 lo, .int .i64 hi, .slice oa' on oc', .int .i64 ot]) (fun g c => row_keep t1.h1 g c _ (by decide))
            have u3 := q12.keep (w' := w12.setRow B3 #[.int .i64 h, .int .i64 w, .int .i64 c, .int .i64 lo, .int .i64 hi, .slice oa' on oc', .int .i64 ot]) (fun g c t ht => row_keep t1.h1 g c t (by rcases ht with rfl | rfl <;> decide))
            have t2 := (t1.row #[.int .i64 h, .int .i64 w, .int .i64 c, .int .i64 lo, .int .i64 hi, .slice oa' on oc', .int .i64 ot] (fun x hx => by simp only [List.mem_cons, List.not_mem_nil, or_false] at hx; rcases hx with rfl | rfl; exact ne_of_ty t1.h2 t1.h1 (by decide); exact ne_of_ty t1.h3 t1.h1 (by decide))).sub (l' := [(B4, #[.slice none 0 0, .slice none 0 0], 30), (B3, #[.int .i64 h, .int .i64 w, .int .i64 c, .int .i64 lo, .int .i64 hi, .slice oa' on oc', .int .i64 ot], 26), (W.heap.size, #[.int .i64 h, .int .i64 w, .int .i64 c, .int .i64 lo, .int .i64 hi, .slice oa on oc, .int .i64 ot, .slice ra rn rc, .slice pa pn pc], 32)]) (by simp)
            generalize World.setRow _ _ _ = v2 at u1 u2 u3 t2 ⊢
            refine zS 9 t2.h3 (by kernel_rfl) rfl rfl 30 (.tmp 4) (.tmp 14) rfl B4 #[.slice ra' rn rc', .slice pa' pn pc'] (by kernel_rfl) (by kernel_rfl) 30 #[.slice none 0 0, .slice none 0 0] t2.h1 (by kernel_rfl) rfl (by simp [Value.oneCell']) ?_
            have g1 := u1.keep (w' := v2.setRow B4 #[.slice ra' rn rc', .slice pa' pn pc']) (fun g c t ht => row_keep t2.h1 g c t (by rcases ht with rfl | rfl | rfl <;> decide))
            have g2 := owns_other u2 (w' := v2.setRow B4 #[.slice ra' rn rc', .slice pa' pn pc']) (fun g c => row_keep t2.h1 g c _ (by decide))
            have g3 := u3.keep (w' := v2.setRow B4 #[.slice ra' rn rc', .slice pa' pn pc']) (fun g c t ht => row_keep t2.h1 g c t (by rcases ht with rfl | rfl <;> decide))
            have t3 := t2.row #[.slice ra' rn rc', .slice pa' pn pc'] (fun x hx => by simp only [List.mem_cons, List.not_mem_nil, or_false] at hx; rcases hx with rfl | rfl; exact ne_of_ty t2.h2 t2.h1 (by decide); exact ne_of_ty t2.h3 t2.h1 (by decide))
            generalize World.setRow _ _ _ = v3 at g1 g2 g3 t3 ⊢
            exact doneC t3.h3 (by kernel_rfl) ⟨B3, B4, oa', oc', ra', rc', pa', pc', by kernel_rfl, t3, g1.l, owns_erow scs_len g2 HRL.out, g3.q⟩ _
        · refine zO rfl rfl (.pointer (some ⟨w10.heap.size, 0, none⟩)) (w10.alloc (.cells #[.slice none 0 0, .slice none 0 0] 30)) (by kernel_rfl) ?_
          have s14 := s10.new (c := #[.slice none 0 0, .slice none 0 0]) (t := 30)
          have hb14 := bal w10 (.cells #[.slice none 0 0, .slice none 0 0] 30)
          have m14 := m10.below hb14
          clear hb14
          obtain ⟨B4, hB4⟩ : ∃ B, w10.heap.size = B := ⟨_, rfl⟩
          obtain ⟨w14, hw14⟩ : ∃ v, w10.alloc (.cells #[.slice none 0 0, .slice none 0 0] 30) = v := ⟨_, rfl⟩
          rw [hw14, hB4] at s14
          rw [hw14, hB4]
          rw [hw14] at m14
          clear hw14 hB4
          refine z1 5 s14.h3 (by kernel_rfl) ?_
          · refine zC rfl rfl 8 #[.agg #[.slice ra rn rc, .slice pa pn pc]] (by kernel_rfl) (A2.out _ s14.below) ?_
            rintro e' w15 ⟨ra', rc', pa', pc', rfl, hq1, hq2, hb⟩
            refine ⟨_, rfl, ?_⟩
            have s15 := s14.call hb
            have m15 := m14.below hb
            clear hb
            have c15 := hq1
            have q15 := hq2
            clear hq1 hq2
            have t1 := s15.sub (l' := [(B3, #[.int .i64 0, .int .i64 0, .int .i64 0, .int .i64 0, .int .i64 0, .slice none 0 0, .int .i64 0], 26), (B4, #[.slice none 0 0, .slice none 0 0], 30), (W.heap.size, #[.int .i64 h, .int .i64 w, .int .i64 c, .int .i64 lo, .int .i64 hi, .slice oa on oc, .int .i64 ot, .slice ra rn rc, .slice pa pn pc], 32)]) (by simp)
            refine zS 8 t1.h3 (by kernel_rfl) rfl rfl 26 (.tmp 3) (.tmp 11) rfl B3 #[.int .i64 h, .int .i64 w, .int .i64 c, .int .i64 lo, .int .i64 hi, .slice oa' on oc', .int .i64 ot] (by kernel_rfl) (by kernel_rfl) 26 #[.int .i64 0, .int .i64 0, .int .i64 0, .int .i64 0, .int .i64 0, .slice none 0 0, .int .i64 0] t1.h1 (by kernel_rfl) rfl (by simp [Value.oneCell']) ?_
            have u1 := m15.keep (w' := w15.setRow B3 #[.int .i64 h, .int .i64 w, .int .i64 c, .int .i64 lo, .int .i64 hi, .slice oa' on oc', .int .i64 ot]) (fun g c t ht => row_keep t1.h1 g c t (by rcases ht with rfl | rfl | rfl <;> decide))
            have u2 := owns_other c15 (w' := w15.setRow B3 #[.int .i64 h, .int .i64 w, .int .i64 c, .int .i64 lo, .int .i64 hi, .slice oa' on oc', .int .i64 ot]) (fun g c => row_keep t1.h1 g c _ (by decide))
            have u3 := q15.keep (w' := w15.setRow B3 #[.int .i64 h, .int .i64 w, .int .i64 c, .int .i64 lo, .int .i64 hi, .slice oa' on oc', .int .i64 ot]) (fun g c t ht => row_keep t1.h1 g c t (by rcases ht with rfl | rfl <;> decide))
            have t2 := (t1.row #[.int .i64 h, .int .i64 w, .int .i64 c, .int .i64 lo, .int .i64 hi, .slice oa' on oc', .int .i64 ot] (fun x hx => by simp only [List.mem_cons, List.not_mem_nil, or_false] at hx; rcases hx with rfl | rfl; exact ne_of_ty t1.h2 t1.h1 (by decide); exact ne_of_ty t1.h3 t1.h1 (by decide))).sub (l' := [(B4, #[.slice none 0 0, .slice none 0 0], 30), (B3, #[.int .i64 h, .int .i64 w, .int .i64 c, .int .i64 lo, .int .i64 hi, .slice oa' on oc', .int .i64 ot], 26), (W.heap.size, #[.int .i64 h, .int .i64 w, .int .i64 c, .int .i64 lo, .int .i64 hi, .slice oa on oc, .int .i64 ot, .slice ra rn rc, .slice pa pn pc], 32)]) (by simp)
            generalize World.setRow _ _ _ = v2 at u1 u2 u3 t2 ⊢
            refine zS 9 t2.h3 (by kernel_rfl) rfl rfl 30 (.tmp 4) (.tmp 14) rfl B4 #[.slice ra' rn rc', .slice pa' pn pc'] (by kernel_rfl) (by kernel_rfl) 30 #[.slice none 0 0, .slice none 0 0] t2.h1 (by kernel_rfl) rfl (by simp [Value.oneCell']) ?_
            have g1 := u1.keep (w' := v2.setRow B4 #[.slice ra' rn rc', .slice pa' pn pc']) (fun g c t ht => row_keep t2.h1 g c t (by rcases ht with rfl | rfl | rfl <;> decide))
            have g2 := owns_other u2 (w' := v2.setRow B4 #[.slice ra' rn rc', .slice pa' pn pc']) (fun g c => row_keep t2.h1 g c _ (by decide))
            have g3 := u3.keep (w' := v2.setRow B4 #[.slice ra' rn rc', .slice pa' pn pc']) (fun g c t ht => row_keep t2.h1 g c t (by rcases ht with rfl | rfl <;> decide))
            have t3 := t2.row #[.slice ra' rn rc', .slice pa' pn pc'] (fun x hx => by simp only [List.mem_cons, List.not_mem_nil, or_false] at hx; rcases hx with rfl | rfl; exact ne_of_ty t2.h2 t2.h1 (by decide); exact ne_of_ty t2.h3 t2.h1 (by decide))
            generalize World.setRow _ _ _ = v3 at g1 g2 g3 t3 ⊢
            exact doneC t3.h3 (by kernel_rfl) ⟨B3, B4, oa', oc', ra', rc', pa', pc', by kernel_rfl, t3, g1.l, owns_erow scs_len g2 HRL.out, g3.q⟩ _
      · refine zO rfl rfl (.pointer (some ⟨w2.heap.size, 0, none⟩)) (w2.alloc (.cells #[.slice none 0 0, .slice none 0 0] 30)) (by kernel_rfl) ?_
        have s17 := s2.new (c := #[.slice none 0 0, .slice none 0 0]) (t := 30)
        have hb17 := bal w2 (.cells #[.slice none 0 0, .slice none 0 0] 30)
        have m17 := m2.below hb17
        clear hb17
        obtain ⟨B4, hB4⟩ : ∃ B, w2.heap.size = B := ⟨_, rfl⟩
        obtain ⟨w17, hw17⟩ : ∃ v, w2.alloc (.cells #[.slice none 0 0, .slice none 0 0] 30) = v := ⟨_, rfl⟩
        rw [hw17, hB4] at s17
        rw [hw17, hB4]
        rw [hw17] at m17
        clear hw17 hB4
        refine z2 5 6 s17.h2 (by kernel_rfl) ?_ ?_
        · refine zC rfl rfl 8 #[.agg #[.slice ra rn rc, .slice pa pn pc]] (by kernel_rfl) (A2.out _ s17.below) ?_
          rintro e' w18 ⟨ra', rc', pa', pc', rfl, hq1, hq2, hb⟩
          refine ⟨_, rfl, ?_⟩
          have s18 := s17.call hb
          have m18 := m17.below hb
          clear hb
          have c18 := hq1
          have q18 := hq2
          clear hq1 hq2
          refine z1 6 s18.h2 (by kernel_rfl) ?_
          · refine zO rfl rfl (.pointer (some ⟨w18.heap.size, 0, none⟩)) (w18.alloc (.cells #[.int .i64 0, .int .i64 0, .int .i64 0, .int .i64 0, .int .i64 0, .slice none 0 0, .int .i64 0] 26)) (by kernel_rfl) ?_
            have s19 := s18.new (c := #[.int .i64 0, .int .i64 0, .int .i64 0, .int .i64 0, .int .i64 0, .slice none 0 0, .int .i64 0]) (t := 26)
            have hb19 := bal w18 (.cells #[.int .i64 0, .int .i64 0, .int .i64 0, .int .i64 0, .int .i64 0, .slice none 0 0, .int .i64 0] 26)
            have m19 := m18.below hb19
            have c19 := owns_below c18 hb19
            have q19 := q18.below hb19
            clear hb19
            obtain ⟨B3, hB3⟩ : ∃ B, w18.heap.size = B := ⟨_, rfl⟩
            obtain ⟨w19, hw19⟩ : ∃ v, w18.alloc (.cells #[.int .i64 0, .int .i64 0, .int .i64 0, .int .i64 0, .int .i64 0, .slice none 0 0, .int .i64 0] 26) = v := ⟨_, rfl⟩
            rw [hw19, hB3] at s19
            rw [hw19, hB3]
            rw [hw19] at m19
            rw [hw19] at c19 q19
            clear hw19 hB3
            have t1 := s19.sub (l' := [(B3, #[.int .i64 0, .int .i64 0, .int .i64 0, .int .i64 0, .int .i64 0, .slice none 0 0, .int .i64 0], 26), (B4, #[.slice none 0 0, .slice none 0 0], 30), (W.heap.size, #[.int .i64 h, .int .i64 w, .int .i64 c, .int .i64 lo, .int .i64 hi, .slice oa on oc, .int .i64 ot, .slice ra rn rc, .slice pa pn pc], 32)]) (by simp)
            refine zS 8 t1.h3 (by kernel_rfl) rfl rfl 26 (.tmp 3) (.tmp 11) rfl B3 #[.int .i64 h, .int .i64 w, .int .i64 c, .int .i64 lo, .int .i64 hi, .slice oa' on oc', .int .i64 ot] (by kernel_rfl) (by kernel_rfl) 26 #[.int .i64 0, .int .i64 0, .int .i64 0, .int .i64 0, .int .i64 0, .slice none 0 0, .int .i64 0] t1.h1 (by kernel_rfl) rfl (by simp [Value.oneCell']) ?_
            have u1 := m19.keep (w' := w19.setRow B3 #[.int .i64 h, .int .i64 w, .int .i64 c, .int .i64 lo, .int .i64 hi, .slice oa' on oc', .int .i64 ot]) (fun g c t ht => row_keep t1.h1 g c t (by rcases ht with rfl | rfl | rfl <;> decide))
            have u2 := owns_other c19 (w' := w19.setRow B3 #[.int .i64 h, .int .i64 w, .int .i64 c, .int .i64 lo, .int .i64 hi, .slice oa' on oc', .int .i64 ot]) (fun g c => row_keep t1.h1 g c _ (by decide))
            have u3 := q19.keep (w' := w19.setRow B3 #[.int .i64 h, .int .i64 w, .int .i64 c, .int .i64 lo, .int .i64 hi, .slice oa' on oc', .int .i64 ot]) (fun g c t ht => row_keep t1.h1 g c t (by rcases ht with rfl | rfl <;> decide))
            have t2 := (t1.row #[.int .i64 h, .int .i64 w, .int .i64 c, .int .i64 lo, .int .i64 hi, .slice oa' on oc', .int .i64 ot] (fun x hx => by simp only [List.mem_cons, List.not_mem_nil, or_false] at hx; rcases hx with rfl | rfl; exact ne_of_ty t1.h2 t1.h1 (by decide); exact ne_of_ty t1.h3 t1.h1 (by decide))).sub (l' := [(B4, #[.slice none 0 0, .slice none 0 0], 30), (B3, #[.int .i64 h, .int .i64 w, .int .i64 c, .int .i64 lo, .int .i64 hi, .slice oa' on oc', .int .i64 ot], 26), (W.heap.size, #[.int .i64 h, .int .i64 w, .int .i64 c, .int .i64 lo, .int .i64 hi, .slice oa on oc, .int .i64 ot, .slice ra rn rc, .slice pa pn pc], 32)]) (by simp)
            generalize World.setRow _ _ _ = v2 at u1 u2 u3 t2 ⊢
            refine zS 9 t2.h3 (by kernel_rfl) rfl rfl 30 (.tmp 4) (.tmp 14) rfl B4 #[.slice ra' rn rc', .slice pa' pn pc'] (by kernel_rfl) (by kernel_rfl) 30 #[.slice none 0 0, .slice none 0 0] t2.h1 (by kernel_rfl) rfl (by simp [Value.oneCell']) ?_
            have g1 := u1.keep (w' := v2.setRow B4 #[.slice ra' rn rc', .slice pa' pn pc']) (fun g c t ht => row_keep t2.h1 g c t (by rcases ht with rfl | rfl | rfl <;> decide))
            have g2 := owns_other u2 (w' := v2.setRow B4 #[.slice ra' rn rc', .slice pa' pn pc']) (fun g c => row_keep t2.h1 g c _ (by decide))
            have g3 := u3.keep (w' := v2.setRow B4 #[.slice ra' rn rc', .slice pa' pn pc']) (fun g c t ht => row_keep t2.h1 g c t (by rcases ht with rfl | rfl <;> decide))
            have t3 := t2.row #[.slice ra' rn rc', .slice pa' pn pc'] (fun x hx => by simp only [List.mem_cons, List.not_mem_nil, or_false] at hx; rcases hx with rfl | rfl; exact ne_of_ty t2.h2 t2.h1 (by decide); exact ne_of_ty t2.h3 t2.h1 (by decide))
            generalize World.setRow _ _ _ = v3 at g1 g2 g3 t3 ⊢
            exact doneC t3.h3 (by kernel_rfl) ⟨B3, B4, oa', oc', ra', rc', pa', pc', by kernel_rfl, t3, g1.l, owns_erow scs_len g2 HRL.out, g3.q⟩ _
        · refine zO rfl rfl (.pointer (some ⟨w17.heap.size, 0, none⟩)) (w17.alloc (.cells #[.int .i64 0, .int .i64 0, .int .i64 0, .int .i64 0, .int .i64 0, .slice none 0 0, .int .i64 0] 26)) (by kernel_rfl) ?_
          have s21 := s17.new (c := #[.int .i64 0, .int .i64 0, .int .i64 0, .int .i64 0, .int .i64 0, .slice none 0 0, .int .i64 0]) (t := 26)
          have hb21 := bal w17 (.cells #[.int .i64 0, .int .i64 0, .int .i64 0, .int .i64 0, .int .i64 0, .slice none 0 0, .int .i64 0] 26)
          have m21 := m17.below hb21
          clear hb21
          obtain ⟨B3, hB3⟩ : ∃ B, w17.heap.size = B := ⟨_, rfl⟩
          obtain ⟨w21, hw21⟩ : ∃ v, w17.alloc (.cells #[.int .i64 0, .int .i64 0, .int .i64 0, .int .i64 0, .int .i64 0, .slice none 0 0, .int .i64 0] 26) = v := ⟨_, rfl⟩
          rw [hw21, hB3] at s21
          rw [hw21, hB3]
          rw [hw21] at m21
          clear hw21 hB3
          refine z1 5 s21.h3 (by kernel_rfl) ?_
          · refine zC rfl rfl 8 #[.agg #[.slice ra rn rc, .slice pa pn pc]] (by kernel_rfl) (A2.out _ s21.below) ?_
            rintro e' w22 ⟨ra', rc', pa', pc', rfl, hq1, hq2, hb⟩
            refine ⟨_, rfl, ?_⟩
            have s22 := s21.call hb
            have m22 := m21.below hb
            clear hb
            have c22 := hq1
            have q22 := hq2
            clear hq1 hq2
            have t1 := s22.sub (l' := [(B3, #[.int .i64 0, .int .i64 0, .int .i64 0, .int .i64 0, .int .i64 0, .slice none 0 0, .int .i64 0], 26), (B4, #[.slice none 0 0, .slice none 0 0], 30), (W.heap.size, #[.int .i64 h, .int .i64 w, .int .i64 c, .int .i64 lo, .int .i64 hi, .slice oa on oc, .int .i64 ot, .slice ra rn rc, .slice pa pn pc], 32)]) (by simp)
            refine zS 8 t1.h3 (by kernel_rfl) rfl rfl 26 (.tmp 3) (.tmp 11) rfl B3 #[.int .i64 h, .int .i64 w, .int .i64 c, .int .i64 lo, .int .i64 hi, .slice oa' on oc', .int .i64 ot] (by kernel_rfl) (by kernel_rfl) 26 #[.int .i64 0, .int .i64 0, .int .i64 0, .int .i64 0, .int .i64 0, .slice none 0 0, .int .i64 0] t1.h1 (by kernel_rfl) rfl (by simp [Value.oneCell']) ?_
            have u1 := m22.keep (w' := w22.setRow B3 #[.int .i64 h, .int .i64 w, .int .i64 c, .int .i64 lo, .int .i64 hi, .slice oa' on oc', .int .i64 ot]) (fun g c t ht => row_keep t1.h1 g c t (by rcases ht with rfl | rfl | rfl <;> decide))
            have u2 := owns_other c22 (w' := w22.setRow B3 #[.int .i64 h, .int .i64 w, .int .i64 c, .int .i64 lo, .int .i64 hi, .slice oa' on oc', .int .i64 ot]) (fun g c => row_keep t1.h1 g c _ (by decide))
            have u3 := q22.keep (w' := w22.setRow B3 #[.int .i64 h, .int .i64 w, .int .i64 c, .int .i64 lo, .int .i64 hi, .slice oa' on oc', .int .i64 ot]) (fun g c t ht => row_keep t1.h1 g c t (by rcases ht with rfl | rfl <;> decide))
            have t2 := (t1.row #[.int .i64 h, .int .i64 w, .int .i64 c, .int .i64 lo, .int .i64 hi, .slice oa' on oc', .int .i64 ot] (fun x hx => by simp only [List.mem_cons, List.not_mem_nil, or_false] at hx; rcases hx with rfl | rfl; exact ne_of_ty t1.h2 t1.h1 (by decide); exact ne_of_ty t1.h3 t1.h1 (by decide))).sub (l' := [(B4, #[.slice none 0 0, .slice none 0 0], 30), (B3, #[.int .i64 h, .int .i64 w, .int .i64 c, .int .i64 lo, .int .i64 hi, .slice oa' on oc', .int .i64 ot], 26), (W.heap.size, #[.int .i64 h, .int .i64 w, .int .i64 c, .int .i64 lo, .int .i64 hi, .slice oa on oc, .int .i64 ot, .slice ra rn rc, .slice pa pn pc], 32)]) (by simp)
            generalize World.setRow _ _ _ = v2 at u1 u2 u3 t2 ⊢
            refine zS 9 t2.h3 (by kernel_rfl) rfl rfl 30 (.tmp 4) (.tmp 14) rfl B4 #[.slice ra' rn rc', .slice pa' pn pc'] (by kernel_rfl) (by kernel_rfl) 30 #[.slice none 0 0, .slice none 0 0] t2.h1 (by kernel_rfl) rfl (by simp [Value.oneCell']) ?_
            have g1 := u1.keep (w' := v2.setRow B4 #[.slice ra' rn rc', .slice pa' pn pc']) (fun g c t ht => row_keep t2.h1 g c t (by rcases ht with rfl | rfl | rfl <;> decide))
            have g2 := owns_other u2 (w' := v2.setRow B4 #[.slice ra' rn rc', .slice pa' pn pc']) (fun g c => row_keep t2.h1 g c _ (by decide))
            have g3 := u3.keep (w' := v2.setRow B4 #[.slice ra' rn rc', .slice pa' pn pc']) (fun g c t ht => row_keep t2.h1 g c t (by rcases ht with rfl | rfl <;> decide))
            have t3 := t2.row #[.slice ra' rn rc', .slice pa' pn pc'] (fun x hx => by simp only [List.mem_cons, List.not_mem_nil, or_false] at hx; rcases hx with rfl | rfl; exact ne_of_ty t2.h2 t2.h1 (by decide); exact ne_of_ty t2.h3 t2.h1 (by decide))
            generalize World.setRow _ _ _ = v3 at g1 g2 g3 t3 ⊢
            exact doneC t3.h3 (by kernel_rfl) ⟨B3, B4, oa', oc', ra', rc', pa', pc', by kernel_rfl, t3, g1.l, owns_erow scs_len g2 HRL.out, g3.q⟩ _
    · refine zO rfl rfl (.pointer (some ⟨w1.heap.size, 0, none⟩)) (w1.alloc (.cells #[.int .i64 0, .int .i64 0, .int .i64 0, .int .i64 0, .int .i64 0, .slice none 0 0, .int .i64 0] 26)) (by kernel_rfl) ?_
      have s24 := s1.new (c := #[.int .i64 0, .int .i64 0, .int .i64 0, .int .i64 0, .int .i64 0, .slice none 0 0, .int .i64 0]) (t := 26)
      have hb24 := bal w1 (.cells #[.int .i64 0, .int .i64 0, .int .i64 0, .int .i64 0, .int .i64 0, .slice none 0 0, .int .i64 0] 26)
      clear hb24
      obtain ⟨B3, hB3⟩ : ∃ B, w1.heap.size = B := ⟨_, rfl⟩
      obtain ⟨w24, hw24⟩ : ∃ v, w1.alloc (.cells #[.int .i64 0, .int .i64 0, .int .i64 0, .int .i64 0, .int .i64 0, .slice none 0 0, .int .i64 0] 26) = v := ⟨_, rfl⟩
      rw [hw24, hB3] at s24
      rw [hw24, hB3]
      clear hw24 hB3
      refine z2 2 7 s24.h2 (by kernel_rfl) ?_ ?_
      · refine zC rfl rfl 7 #[.agg #[.int .i64 h, .int .i64 w, .int .i64 c, .int .i64 lo, .int .i64 hi, .slice oa on oc, .int .i64 ot]] (by kernel_rfl) (A1.out _ s24.below) ?_
        rintro e' w25 ⟨oa', oc', rfl, hq, hb⟩
        refine ⟨_, rfl, ?_⟩
        have s25 := s24.call hb
        have m25 := cr_base hq (c := W.heap.size) s24.size
        clear hb hq
        refine z2 5 7 s25.h2 (by kernel_rfl) ?_ ?_
        · refine zC rfl rfl 8 #[.agg #[.slice ra rn rc, .slice pa pn pc]] (by kernel_rfl) (A2.out _ s25.below) ?_
          rintro e' w26 ⟨ra', rc', pa', pc', rfl, hq1, hq2, hb⟩
          refine ⟨_, rfl, ?_⟩
          have s26 := s25.call hb
          have m26 := m25.below hb
          clear hb
          have c26 := hq1
          have q26 := hq2
          clear hq1 hq2
          refine z1 7 s26.h2 (by kernel_rfl) ?_
          · refine zO rfl rfl (.pointer (some ⟨w26.heap.size, 0, none⟩)) (w26.alloc (.cells #[.slice none 0 0, .slice none 0 0] 30)) (by kernel_rfl) ?_
            have s27 := s26.new (c := #[.slice none 0 0, .slice none 0 0]) (t := 30)
            have hb27 := bal w26 (.cells #[.slice none 0 0, .slice none 0 0] 30)
            have m27 := m26.below hb27
            have c27 := owns_below c26 hb27
            have q27 := q26.below hb27
            clear hb27
            obtain ⟨B4, hB4⟩ : ∃ B, w26.heap.size = B := ⟨_, rfl⟩
            obtain ⟨w27, hw27⟩ : ∃ v, w26.alloc (.cells #[.slice none 0 0, .slice none 0 0] 30) = v := ⟨_, rfl⟩
            rw [hw27, hB4] at s27
            rw [hw27, hB4]
            rw [hw27] at m27
            rw [hw27] at c27 q27
            clear hw27 hB4
            have t1 := s27.sub (l' := [(B3, #[.int .i64 0, .int .i64 0, .int .i64 0, .int .i64 0, .int .i64 0, .slice none 0 0, .int .i64 0], 26), (B4, #[.slice none 0 0, .slice none 0 0], 30), (W.heap.size, #[.int .i64 h, .int .i64 w, .int .i64 c, .int .i64 lo, .int .i64 hi, .slice oa on oc, .int .i64 ot, .slice ra rn rc, .slice pa pn pc], 32)]) (by simp)
            refine zS 8 t1.h3 (by kernel_rfl) rfl rfl 26 (.tmp 3) (.tmp 11) rfl B3 #[.int .i64 h, .int .i64 w, .int .i64 c, .int .i64 lo, .int .i64 hi, .slice oa' on oc', .int .i64 ot] (by kernel_rfl) (by kernel_rfl) 26 #[.int .i64 0, .int .i64 0, .int .i64 0, .int .i64 0, .int .i64 0, .slice none 0 0, .int .i64 0] t1.h1 (by kernel_rfl) rfl (by simp [Value.oneCell']) ?_
            have u1 := m27.keep (w' := w27.setRow B3 #[.int .i64 h, .int .i64 w, .int .i64 c, .int .i64 lo, .int .i64 hi, .slice oa' on oc', .int .i64 ot]) (fun g c t ht => row_keep t1.h1 g c t (by rcases ht with rfl | rfl | rfl <;> decide))
            have u2 := owns_other c27 (w' := w27.setRow B3 #[.int .i64 h, .int .i64 w, .int .i64 c, .int .i64 lo, .int .i64 hi, .slice oa' on oc', .int .i64 ot]) (fun g c => row_keep t1.h1 g c _ (by decide))
            have u3 := q27.keep (w' := w27.setRow B3 #[.int .i64 h, .int .i64 w, .int .i64 c, .int .i64 lo, .int .i64 hi, .slice oa' on oc', .int .i64 ot]) (fun g c t ht => row_keep t1.h1 g c t (by rcases ht with rfl | rfl <;> decide))
            have t2 := (t1.row #[.int .i64 h, .int .i64 w, .int .i64 c, .int .i64 lo, .int .i64 hi, .slice oa' on oc', .int .i64 ot] (fun x hx => by simp only [List.mem_cons, List.not_mem_nil, or_false] at hx; rcases hx with rfl | rfl; exact ne_of_ty t1.h2 t1.h1 (by decide); exact ne_of_ty t1.h3 t1.h1 (by decide))).sub (l' := [(B4, #[.slice none 0 0, .slice none 0 0], 30), (B3, #[.int .i64 h, .int .i64 w, .int .i64 c, .int .i64 lo, .int .i64 hi, .slice oa' on oc', .int .i64 ot], 26), (W.heap.size, #[.int .i64 h, .int .i64 w, .int .i64 c, .int .i64 lo, .int .i64 hi, .slice oa on oc, .int .i64 ot, .slice ra rn rc, .slice pa pn pc], 32)]) (by simp)
            generalize World.setRow _ _ _ = v2 at u1 u2 u3 t2 ⊢
            refine zS 9 t2.h3 (by kernel_rfl) rfl rfl 30 (.tmp 4) (.tmp 14) rfl B4 #[.slice ra' rn rc', .slice pa' pn pc'] (by kernel_rfl) (by kernel_rfl) 30 #[.slice none 0 0, .slice none 0 0] t2.h1 (by kernel_rfl) rfl (by simp [Value.oneCell']) ?_
            have g1 := u1.keep (w' := v2.setRow B4 #[.slice ra' rn rc', .slice pa' pn pc']) (fun g c t ht => row_keep t2.h1 g c t (by rcases ht with rfl | rfl | rfl <;> decide))
            have g2 := owns_other u2 (w' := v2.setRow B4 #[.slice ra' rn rc', .slice pa' pn pc']) (fun g c => row_keep t2.h1 g c _ (by decide))
            have g3 := u3.keep (w' := v2.setRow B4 #[.slice ra' rn rc', .slice pa' pn pc']) (fun g c t ht => row_keep t2.h1 g c t (by rcases ht with rfl | rfl <;> decide))
            have t3 := t2.row #[.slice ra' rn rc', .slice pa' pn pc'] (fun x hx => by simp only [List.mem_cons, List.not_mem_nil, or_false] at hx; rcases hx with rfl | rfl; exact ne_of_ty t2.h2 t2.h1 (by decide); exact ne_of_ty t2.h3 t2.h1 (by decide))
            generalize World.setRow _ _ _ = v3 at g1 g2 g3 t3 ⊢
            exact doneC t3.h3 (by kernel_rfl) ⟨B3, B4, oa', oc', ra', rc', pa', pc', by kernel_rfl, t3, g1.l, owns_erow scs_len g2 HRL.out, g3.q⟩ _
        · refine zO rfl rfl (.pointer (some ⟨w25.heap.size, 0, none⟩)) (w25.alloc (.cells #[.slice none 0 0, .slice none 0 0] 30)) (by kernel_rfl) ?_
          have s29 := s25.new (c := #[.slice none 0 0, .slice none 0 0]) (t := 30)
          have hb29 := bal w25 (.cells #[.slice none 0 0, .slice none 0 0] 30)
          have m29 := m25.below hb29
          clear hb29
          obtain ⟨B4, hB4⟩ : ∃ B, w25.heap.size = B := ⟨_, rfl⟩
          obtain ⟨w29, hw29⟩ : ∃ v, w25.alloc (.cells #[.slice none 0 0, .slice none 0 0] 30) = v := ⟨_, rfl⟩
          rw [hw29, hB4] at s29
          rw [hw29, hB4]
          rw [hw29] at m29
          clear hw29 hB4
          refine z1 5 s29.h3 (by kernel_rfl) ?_
          · refine zC rfl rfl 8 #[.agg #[.slice ra rn rc, .slice pa pn pc]] (by kernel_rfl) (A2.out _ s29.below) ?_
            rintro e' w30 ⟨ra', rc', pa', pc', rfl, hq1, hq2, hb⟩
            refine ⟨_, rfl, ?_⟩
            have s30 := s29.call hb
            have m30 := m29.below hb
            clear hb
            have c30 := hq1
            have q30 := hq2
            clear hq1 hq2
            have t1 := s30.sub (l' := [(B3, #[.int .i64 0, .int .i64 0, .int .i64 0, .int .i64 0, .int .i64 0, .slice none 0 0, .int .i64 0], 26), (B4, #[.slice none 0 0, .slice none 0 0], 30), (W.heap.size, #[.int .i64 h, .int .i64 w, .int .i64 c, .int .i64 lo, .int .i64 hi, .slice oa on oc, .int .i64 ot, .slice ra rn rc, .slice pa pn pc], 32)]) (by simp)
            refine zS 8 t1.h3 (by kernel_rfl) rfl rfl 26 (.tmp 3) (.tmp 11) rfl B3 #[.int .i64 h, .int .i64 w, .int .i64 c, .int .i64 lo, .int .i64 hi, .slice oa' on oc', .int .i64 ot] (by kernel_rfl) (by kernel_rfl) 26 #[.int .i64 0, .int .i64 0, .int .i64 0, .int .i64 0, .int .i64 0, .slice none 0 0, .int .i64 0] t1.h1 (by kernel_rfl) rfl (by simp [Value.oneCell']) ?_
            have u1 := m30.keep (w' := w30.setRow B3 #[.int .i64 h, .int .i64 w, .int .i64 c, .int .i64 lo, .int .i64 hi, .slice oa' on oc', .int .i64 ot]) (fun g c t ht => row_keep t1.h1 g c t (by rcases ht with rfl | rfl | rfl <;> decide))
            have u2 := owns_other c30 (w' := w30.setRow B3 #[.int .i64 h, .int .i64 w, .int .i64 c, .int .i64 lo, .int .i64 hi, .slice oa' on oc', .int .i64 ot]) (fun g c => row_keep t1.h1 g c _ (by decide))
            have u3 := q30.keep (w' := w30.setRow B3 #[.int .i64 h, .int .i64 w, .int .i64 c, .int .i64 lo, .int .i64 hi, .slice oa' on oc', .int .i64 ot]) (fun g c t ht => row_keep t1.h1 g c t (by rcases ht with rfl | rfl <;> decide))
            have t2 := (t1.row #[.int .i64 h, .int .i64 w, .int .i64 c, .int .i64 lo, .int .i64 hi, .slice oa' on oc', .int .i64 ot] (fun x hx => by simp only [List.mem_cons, List.not_mem_nil, or_false] at hx; rcases hx with rfl | rfl; exact ne_of_ty t1.h2 t1.h1 (by decide); exact ne_of_ty t1.h3 t1.h1 (by decide))).sub (l' := [(B4, #[.slice none 0 0, .slice none 0 0], 30), (B3, #[.int .i64 h, .int .i64 w, .int .i64 c, .int .i64 lo, .int .i64 hi, .slice oa' on oc', .int .i64 ot], 26), (W.heap.size, #[.int .i64 h, .int .i64 w, .int .i64 c, .int .i64 lo, .int .i64 hi, .slice oa on oc, .int .i64 ot, .slice ra rn rc, .slice pa pn pc], 32)]) (by simp)
            generalize World.setRow _ _ _ = v2 at u1 u2 u3 t2 ⊢
            refine zS 9 t2.h3 (by kernel_rfl) rfl rfl 30 (.tmp 4) (.tmp 14) rfl B4 #[.slice ra' rn rc', .slice pa' pn pc'] (by kernel_rfl) (by kernel_rfl) 30 #[.slice none 0 0, .slice none 0 0] t2.h1 (by kernel_rfl) rfl (by simp [Value.oneCell']) ?_
            have g1 := u1.keep (w' := v2.setRow B4 #[.slice ra' rn rc', .slice pa' pn pc']) (fun g c t ht => row_keep t2.h1 g c t (by rcases ht with rfl | rfl | rfl <;> decide))
            have g2 := owns_other u2 (w' := v2.setRow B4 #[.slice ra' rn rc', .slice pa' pn pc']) (fun g c => row_keep t2.h1 g c _ (by decide))
            have g3 := u3.keep (w' := v2.setRow B4 #[.slice ra' rn rc', .slice pa' pn pc']) (fun g c t ht => row_keep t2.h1 g c t (by rcases ht with rfl | rfl <;> decide))
            have t3 := t2.row #[.slice ra' rn rc', .slice pa' pn pc'] (fun x hx => by simp only [List.mem_cons, List.not_mem_nil, or_false] at hx; rcases hx with rfl | rfl; exact ne_of_ty t2.h2 t2.h1 (by decide); exact ne_of_ty t2.h3 t2.h1 (by decide))
            generalize World.setRow _ _ _ = v3 at g1 g2 g3 t3 ⊢
            exact doneC t3.h3 (by kernel_rfl) ⟨B3, B4, oa', oc', ra', rc', pa', pc', by kernel_rfl, t3, g1.l, owns_erow scs_len g2 HRL.out, g3.q⟩ _
      · refine zO rfl rfl (.pointer (some ⟨w24.heap.size, 0, none⟩)) (w24.alloc (.cells #[.slice none 0 0, .slice none 0 0] 30)) (by kernel_rfl) ?_
        have s32 := s24.new (c := #[.slice none 0 0, .slice none 0 0]) (t := 30)
        have hb32 := bal w24 (.cells #[.slice none 0 0, .slice none 0 0] 30)
        clear hb32
        obtain ⟨B4, hB4⟩ : ∃ B, w24.heap.size = B := ⟨_, rfl⟩
        obtain ⟨w32, hw32⟩ : ∃ v, w24.alloc (.cells #[.slice none 0 0, .slice none 0 0] 30) = v := ⟨_, rfl⟩
        rw [hw32, hB4] at s32
        rw [hw32, hB4]
        clear hw32 hB4
        refine z1 2 s32.h3 (by kernel_rfl) ?_
        · refine zC rfl rfl 7 #[.agg #[.int .i64 h, .int .i64 w, .int .i64 c, .int .i64 lo, .int .i64 hi, .slice oa on oc, .int .i64 ot]] (by kernel_rfl) (A1.out _ s32.below) ?_
          rintro e' w33 ⟨oa', oc', rfl, hq, hb⟩
          refine ⟨_, rfl, ?_⟩
          have s33 := s32.call hb
          have m33 := cr_base hq (c := W.heap.size) s32.size
          clear hb hq
          refine z1 5 s33.h3 (by kernel_rfl) ?_
          · refine zC rfl rfl 8 #[.agg #[.slice ra rn rc, .slice pa pn pc]] (by kernel_rfl) (A2.out _ s33.below) ?_
            rintro e' w34 ⟨ra', rc', pa', pc', rfl, hq1, hq2, hb⟩
            refine ⟨_, rfl, ?_⟩
            have s34 := s33.call hb
            have m34 := m33.below hb
            clear hb
            have c34 := hq1
            have q34 := hq2
            clear hq1 hq2
            have t1 := s34.sub (l' := [(B3, #[.int .i64 0, .int .i64 0, .int .i64 0, .int .i64 0, .int .i64 0, .slice none 0 0, .int .i64 0], 26), (B4, #[.slice none 0 0, .slice none 0 0], 30), (W.heap.size, #[.int .i64 h, .int .i64 w, .int .i64 c, .int .i64 lo, .int .i64 hi, .slice oa on oc, .int .i64 ot, .slice ra rn rc, .slice pa pn pc], 32)]) (by simp)
            refine zS 8 t1.h3 (by kernel_rfl) rfl rfl 26 (.tmp 3) (.tmp 11) rfl B3 #[.int .i64 h, .int .i64 w, .int .i64 c, .int .i64 lo, .int .i64 hi, .slice oa' on oc', .int .i64 ot] (by kernel_rfl) (by kernel_rfl) 26 #[.int .i64 0, .int .i64 0, .int .i64 0, .int .i64 0, .int .i64 0, .slice none 0 0, .int .i64 0] t1.h1 (by kernel_rfl) rfl (by simp [Value.oneCell']) ?_
            have u1 := m34.keep (w' := w34.setRow B3 #[.int .i64 h, .int .i64 w, .int .i64 c, .int .i64 lo, .int .i64 hi, .slice oa' on oc', .int .i64 ot]) (fun g c t ht => row_keep t1.h1 g c t (by rcases ht with rfl | rfl | rfl <;> decide))
            have u2 := owns_other c34 (w' := w34.setRow B3 #[.int .i64 h, .int .i64 w, .int .i64 c, .int .i64 lo, .int .i64 hi, .slice oa' on oc', .int .i64 ot]) (fun g c => row_keep t1.h1 g c _ (by decide))
            have u3 := q34.keep (w' := w34.setRow B3 #[.int .i64 h, .int .i64 w, .int .i64 c, .int .i64 lo, .int .i64 hi, .slice oa' on oc', .int .i64 ot]) (fun g c t ht => row_keep t1.h1 g c t (by rcases ht with rfl | rfl <;> decide))
            have t2 := (t1.row #[.int .i64 h, .int .i64 w, .int .i64 c, .int .i64 lo, .int .i64 hi, .slice oa' on oc', .int .i64 ot] (fun x hx => by simp only [List.mem_cons, List.not_mem_nil, or_false] at hx; rcases hx with rfl | rfl; exact ne_of_ty t1.h2 t1.h1 (by decide); exact ne_of_ty t1.h3 t1.h1 (by decide))).sub (l' := [(B4, #[.slice none 0 0, .slice none 0 0], 30), (B3, #[.int .i64 h, .int .i64 w, .int .i64 c, .int .i64 lo, .int .i64 hi, .slice oa' on oc', .int .i64 ot], 26), (W.heap.size, #[.int .i64 h, .int .i64 w, .int .i64 c, .int .i64 lo, .int .i64 hi, .slice oa on oc, .int .i64 ot, .slice ra rn rc, .slice pa pn pc], 32)]) (by simp)
            generalize World.setRow _ _ _ = v2 at u1 u2 u3 t2 ⊢
            refine zS 9 t2.h3 (by kernel_rfl) rfl rfl 30 (.tmp 4) (.tmp 14) rfl B4 #[.slice ra' rn rc', .slice pa' pn pc'] (by kernel_rfl) (by kernel_rfl) 30 #[.slice none 0 0, .slice none 0 0] t2.h1 (by kernel_rfl) rfl (by simp [Value.oneCell']) ?_
            have g1 := u1.keep (w' := v2.setRow B4 #[.slice ra' rn rc', .slice pa' pn pc']) (fun g c t ht => row_keep t2.h1 g c t (by rcases ht with rfl | rfl | rfl <;> decide))
            have g2 := owns_other u2 (w' := v2.setRow B4 #[.slice ra' rn rc', .slice pa' pn pc']) (fun g c => row_keep t2.h1 g c _ (by decide))
            have g3 := u3.keep (w' := v2.setRow B4 #[.slice ra' rn rc', .slice pa' pn pc']) (fun g c t ht => row_keep t2.h1 g c t (by rcases ht with rfl | rfl <;> decide))
            have t3 := t2.row #[.slice ra' rn rc', .slice pa' pn pc'] (fun x hx => by simp only [List.mem_cons, List.not_mem_nil, or_false] at hx; rcases hx with rfl | rfl; exact ne_of_ty t2.h2 t2.h1 (by decide); exact ne_of_ty t2.h3 t2.h1 (by decide))
            generalize World.setRow _ _ _ = v3 at g1 g2 g3 t3 ⊢
            exact doneC t3.h3 (by kernel_rfl) ⟨B3, B4, oa', oc', ra', rc', pa', pc', by kernel_rfl, t3, g1.l, owns_erow scs_len g2 HRL.out, g3.q⟩ _
    · refine zO rfl rfl (.pointer (some ⟨w1.heap.size, 0, none⟩)) (w1.alloc (.cells #[.slice none 0 0, .slice none 0 0] 30)) (by kernel_rfl) ?_
      have s36 := s1.new (c := #[.slice none 0 0, .slice none 0 0]) (t := 30)
      have hb36 := bal w1 (.cells #[.slice none 0 0, .slice none 0 0] 30)
      clear hb36
      obtain ⟨B4, hB4⟩ : ∃ B, w1.heap.size = B := ⟨_, rfl⟩
      obtain ⟨w36, hw36⟩ : ∃ v, w1.alloc (.cells #[.slice none 0 0, .slice none 0 0] 30) = v := ⟨_, rfl⟩
      rw [hw36, hB4] at s36
      rw [hw36, hB4]
      clear hw36 hB4
      refine z2 2 6 s36.h2 (by kernel_rfl) ?_ ?_
      · refine zC rfl rfl 7 #[.agg #[.int .i64 h, .int .i64 w, .int .i64 c, .int .i64 lo, .int .i64 hi, .slice oa on oc, .int .i64 ot]] (by kernel_rfl) (A1.out _ s36.below) ?_
        rintro e' w37 ⟨oa', oc', rfl, hq, hb⟩
        refine ⟨_, rfl, ?_⟩
        have s37 := s36.call hb
        have m37 := cr_base hq (c := W.heap.size) s36.size
        clear hb hq
        refine z2 5 6 s37.h2 (by kernel_rfl) ?_ ?_
        · refine zC rfl rfl 8 #[.agg #[.slice ra rn rc, .slice pa pn pc]] (by kernel_rfl) (A2.out _ s37.below) ?_
          rintro e' w38 ⟨ra', rc', pa', pc', rfl, hq1, hq2, hb⟩
          refine ⟨_, rfl, ?_⟩
          have s38 := s37.call hb
          have m38 := m37.below hb
          clear hb
          have c38 := hq1
          have q38 := hq2
          clear hq1 hq2
          refine z1 6 s38.h2 (by kernel_rfl) ?_
          · refine zO rfl rfl (.pointer (some ⟨w38.heap.size, 0, none⟩)) (w38.alloc (.cells #[.int .i64 0, .int .i64 0, .int .i64 0, .int .i64 0, .int .i64 0, .slice none 0 0, .int .i64 0] 26)) (by kernel_rfl) ?_
            have s39 := s38.new (c := #[.int .i64 0, .int .i64 0, .int .i64 0, .int .i64 0, .int .i64 0, .slice none 0 0, .int .i64 0]) (t := 26)
            have hb39 := bal w38 (.cells #[.int .i64 0, .int .i64 0, .int .i64 0, .int .i64 0, .int .i64 0, .slice none 0 0, .int .i64 0] 26)
            have m39 := m38.below hb39
            have c39 := owns_below c38 hb39
            have q39 := q38.below hb39
            clear hb39
            obtain ⟨B3, hB3⟩ : ∃ B, w38.heap.size = B := ⟨_, rfl⟩
            obtain ⟨w39, hw39⟩ : ∃ v, w38.alloc (.cells #[.int .i64 0, .int .i64 0, .int .i64 0, .int .i64 0, .int .i64 0, .slice none 0 0, .int .i64 0] 26) = v := ⟨_, rfl⟩
            rw [hw39, hB3] at s39
            rw [hw39, hB3]
            rw [hw39] at m39
            rw [hw39] at c39 q39
            clear hw39 hB3
            have t1 := s39.sub (l' := [(B3, #[.int .i64 0, .int .i64 0, .int .i64 0, .int .i64 0, .int .i64 0, .slice none 0 0, .int .i64 0], 26), (B4, #[.slice none 0 0, .slice none 0 0], 30), (W.heap.size, #[.int .i64 h, .int .i64 w, .int .i64 c, .int .i64 lo, .int .i64 hi, .slice oa on oc, .int .i64 ot, .slice ra rn rc, .slice pa pn pc], 32)]) (by simp)
            refine zS 8 t1.h3 (by kernel_rfl) rfl rfl 26 (.tmp 3) (.tmp 11) rfl B3 #[.int .i64 h, .int .i64 w, .int .i64 c, .int .i64 lo, .int .i64 hi, .slice oa' on oc', .int .i64 ot] (by kernel_rfl) (by kernel_rfl) 26 #[.int .i64 0, .int .i64 0, .int .i64 0, .int .i64 0, .int .i64 0, .slice none 0 0, .int .i64 0] t1.h1 (by kernel_rfl) rfl (by simp [Value.oneCell']) ?_
            have u1 := m39.keep (w' := w39.setRow B3 #[.int .i64 h, .int .i64 w, .int .i64 c, .int .i64 lo, .int .i64 hi, .slice oa' on oc', .int .i64 ot]) (fun g c t ht => row_keep t1.h1 g c t (by rcases ht with rfl | rfl | rfl <;> decide))
            have u2 := owns_other c39 (w' := w39.setRow B3 #[.int .i64 h, .int .i64 w, .int .i64 c, .int .i64 lo, .int .i64 hi, .slice oa' on oc', .int .i64 ot]) (fun g c => row_keep t1.h1 g c _ (by decide))
            have u3 := q39.keep (w' := w39.setRow B3 #[.int .i64 h, .int .i64 w, .int .i64 c, .int .i64 lo, .int .i64 hi, .slice oa' on oc', .int .i64 ot]) (fun g c t ht => row_keep t1.h1 g c t (by rcases ht with rfl | rfl <;> decide))
            have t2 := (t1.row #[.int .i64 h, .int .i64 w, .int .i64 c, .int .i64 lo, .int .i64 hi, .slice oa' on oc', .int .i64 ot] (fun x hx => by simp only [List.mem_cons, List.not_mem_nil, or_false] at hx; rcases hx with rfl | rfl; exact ne_of_ty t1.h2 t1.h1 (by decide); exact ne_of_ty t1.h3 t1.h1 (by decide))).sub (l' := [(B4, #[.slice none 0 0, .slice none 0 0], 30), (B3, #[.int .i64 h, .int .i64 w, .int .i64 c, .int .i64 lo, .int .i64 hi, .slice oa' on oc', .int .i64 ot], 26), (W.heap.size, #[.int .i64 h, .int .i64 w, .int .i64 c, .int .i64 lo, .int .i64 hi, .slice oa on oc, .int .i64 ot, .slice ra rn rc, .slice pa pn pc], 32)]) (by simp)
            generalize World.setRow _ _ _ = v2 at u1 u2 u3 t2 ⊢
            refine zS 9 t2.h3 (by kernel_rfl) rfl rfl 30 (.tmp 4) (.tmp 14) rfl B4 #[.slice ra' rn rc', .slice pa' pn pc'] (by kernel_rfl) (by kernel_rfl) 30 #[.slice none 0 0, .slice none 0 0] t2.h1 (by kernel_rfl) rfl (by simp [Value.oneCell']) ?_
            have g1 := u1.keep (w' := v2.setRow B4 #[.slice ra' rn rc', .slice pa' pn pc']) (fun g c t ht => row_keep t2.h1 g c t (by rcases ht with rfl | rfl | rfl <;> decide))
            have g2 := owns_other u2 (w' := v2.setRow B4 #[.slice ra' rn rc', .slice pa' pn pc']) (fun g c => row_keep t2.h1 g c _ (by decide))
            have g3 := u3.keep (w' := v2.setRow B4 #[.slice ra' rn rc', .slice pa' pn pc']) (fun g c t ht => row_keep t2.h1 g c t (by rcases ht with rfl | rfl <;> decide))
            have t3 := t2.row #[.slice ra' rn rc', .slice pa' pn pc'] (fun x hx => by simp only [List.mem_cons, List.not_mem_nil, or_false] at hx; rcases hx with rfl | rfl; exact ne_of_ty t2.h2 t2.h1 (by decide); exact ne_of_ty t2.h3 t2.h1 (by decide))
            generalize World.setRow _ _ _ = v3 at g1 g2 g3 t3 ⊢
            exact doneC t3.h3 (by kernel_rfl) ⟨B3, B4, oa', oc', ra', rc', pa', pc', by kernel_rfl, t3, g1.l, owns_erow scs_len g2 HRL.out, g3.q⟩ _
        · refine zO rfl rfl (.pointer (some ⟨w37.heap.size, 0, none⟩)) (w37.alloc (.cells #[.int .i64 0, .int .i64 0, .int .i64 0, .int .i64 0, .int .i64 0, .slice none 0 0, .int .i64 0] 26)) (by kernel_rfl) ?_
          have s41 := s37.new (c := #[.int .i64 0, .int .i64 0, .int .i64 0, .int .i64 0, .int .i64 0, .slice none 0 0, .int .i64 0]) (t := 26)
          have hb41 := bal w37 (.cells #[.int .i64 0, .int .i64 0, .int .i64 0, .int .i64 0, .int .i64 0, .slice none 0 0, .int .i64 0] 26)
          have m41 := m37.below hb41
          clear hb41
          obtain ⟨B3, hB3⟩ : ∃ B, w37.heap.size = B := ⟨_, rfl⟩
          obtain ⟨w41, hw41⟩ : ∃ v, w37.alloc (.cells #[.int .i64 0, .int .i64 0, .int .i64 0, .int .i64 0, .int .i64 0, .slice none 0 0, .int .i64 0] 26) = v := ⟨_, rfl⟩
          rw [hw41, hB3] at s41
          rw [hw41, hB3]
          rw [hw41] at m41
          clear hw41 hB3
          refine z1 5 s41.h3 (by kernel_rfl) ?_
          · refine zC rfl rfl 8 #[.agg #[.slice ra rn rc, .slice pa pn pc]] (by kernel_rfl) (A2.out _ s41.below) ?_
            rintro e' w42 ⟨ra', rc', pa', pc', rfl, hq1, hq2, hb⟩
            refine ⟨_, rfl, ?_⟩
            have s42 := s41.call hb
            have m42 := m41.below hb
            clear hb
            have c42 := hq1
            have q42 := hq2
            clear hq1 hq2
            have t1 := s42.sub (l' := [(B3, #[.int .i64 0, .int .i64 0, .int .i64 0, .int .i64 0, .int .i64 0, .slice none 0 0, .int .i64 0], 26), (B4, #[.slice none 0 0, .slice none 0 0], 30), (W.heap.size, #[.int .i64 h, .int .i64 w, .int .i64 c, .int .i64 lo, .int .i64 hi, .slice oa on oc, .int .i64 ot, .slice ra rn rc, .slice pa pn pc], 32)]) (by simp)
            refine zS 8 t1.h3 (by kernel_rfl) rfl rfl 26 (.tmp 3) (.tmp 11) rfl B3 #[.int .i64 h, .int .i64 w, .int .i64 c, .int .i64 lo, .int .i64 hi, .slice oa' on oc', .int .i64 ot] (by kernel_rfl) (by kernel_rfl) 26 #[.int .i64 0, .int .i64 0, .int .i64 0, .int .i64 0, .int .i64 0, .slice none 0 0, .int .i64 0] t1.h1 (by kernel_rfl) rfl (by simp [Value.oneCell']) ?_
            have u1 := m42.keep (w' := w42.setRow B3 #[.int .i64 h, .int .i64 w, .int .i64 c, .int .i64 lo, .int .i64 hi, .slice oa' on oc', .int .i64 ot]) (fun g c t ht => row_keep t1.h1 g c t (by rcases ht with rfl | rfl | rfl <;> decide))
            have u2 := owns_other c42 (w' := w42.setRow B3 #[.int .i64 h, .int .i64 w, .int .i64 c, .int .i64 lo, .int .i64 hi, .slice oa' on oc', .int .i64 ot]) (fun g c => row_keep t1.h1 g c _ (by decide))
            have u3 := q42.keep (w' := w42.setRow B3 #[.int .i64 h, .int .i64 w, .int .i64 c, .int .i64 lo, .int .i64 hi, .slice oa' on oc', .int .i64 ot]) (fun g c t ht => row_keep t1.h1 g c t (by rcases ht with rfl | rfl <;> decide))
            have t2 := (t1.row #[.int .i64 h, .int .i64 w, .int .i64 c, .int .i64 lo, .int .i64 hi, .slice oa' on oc', .int .i64 ot] (fun x hx => by simp only [List.mem_cons, List.not_mem_nil, or_false] at hx; rcases hx with rfl | rfl; exact ne_of_ty t1.h2 t1.h1 (by decide); exact ne_of_ty t1.h3 t1.h1 (by decide))).sub (l' := [(B4, #[.slice none 0 0, .slice none 0 0], 30), (B3, #[.int .i64 h, .int .i64 w, .int .i64 c, .int .i64 lo, .int .i64 hi, .slice oa' on oc', .int .i64 ot], 26), (W.heap.size, #[.int .i64 h, .int .i64 w, .int .i64 c, .int .i64 lo, .int .i64 hi, .slice oa on oc, .int .i64 ot, .slice ra rn rc, .slice pa pn pc], 32)]) (by simp)
            generalize World.setRow _ _ _ = v2 at u1 u2 u3 t2 ⊢
            refine zS 9 t2.h3 (by kernel_rfl) rfl rfl 30 (.tmp 4) (.tmp 14) rfl B4 #[.slice ra' rn rc', .slice pa' pn pc'] (by kernel_rfl) (by kernel_rfl) 30 #[.slice none 0 0, .slice none 0 0] t2.h1 (by kernel_rfl) rfl (by simp [Value.oneCell']) ?_
            have g1 := u1.keep (w' := v2.setRow B4 #[.slice ra' rn rc', .slice pa' pn pc']) (fun g c t ht => row_keep t2.h1 g c t (by rcases ht with rfl | rfl | rfl <;> decide))
            have g2 := owns_other u2 (w' := v2.setRow B4 #[.slice ra' rn rc', .slice pa' pn pc']) (fun g c => row_keep t2.h1 g c _ (by decide))
            have g3 := u3.keep (w' := v2.setRow B4 #[.slice ra' rn rc', .slice pa' pn pc']) (fun g c t ht => row_keep t2.h1 g c t (by rcases ht with rfl | rfl <;> decide))
            have t3 := t2.row #[.slice ra' rn rc', .slice pa' pn pc'] (fun x hx => by simp only [List.mem_cons, List.not_mem_nil, or_false] at hx; rcases hx with rfl | rfl; exact ne_of_ty t2.h2 t2.h1 (by decide); exact ne_of_ty t2.h3 t2.h1 (by decide))
            generalize World.setRow _ _ _ = v3 at g1 g2 g3 t3 ⊢
            exact doneC t3.h3 (by kernel_rfl) ⟨B3, B4, oa', oc', ra', rc', pa', pc', by kernel_rfl, t3, g1.l, owns_erow scs_len g2 HRL.out, g3.q⟩ _
      · refine zO rfl rfl (.pointer (some ⟨w36.heap.size, 0, none⟩)) (w36.alloc (.cells #[.int .i64 0, .int .i64 0, .int .i64 0, .int .i64 0, .int .i64 0, .slice none 0 0, .int .i64 0] 26)) (by kernel_rfl) ?_
        have s44 := s36.new (c := #[.int .i64 0, .int .i64 0, .int .i64 0, .int .i64 0, .int .i64 0, .slice none 0 0, .int .i64 0]) (t := 26)
        have hb44 := bal w36 (.cells #[.int .i64 0, .int .i64 0, .int .i64 0, .int .i64 0, .int .i64 0, .slice none 0 0, .int .i64 0] 26)
        clear hb44
        obtain ⟨B3, hB3⟩ : ∃ B, w36.heap.size = B := ⟨_, rfl⟩
        obtain ⟨w44, hw44⟩ : ∃ v, w36.alloc (.cells #[.int .i64 0, .int .i64 0, .int .i64 0, .int .i64 0, .int .i64 0, .slice none 0 0, .int .i64 0] 26) = v := ⟨_, rfl⟩
        rw [hw44, hB3] at s44
        rw [hw44, hB3]
        clear hw44 hB3
        refine z1 2 s44.h3 (by kernel_rfl) ?_
        · refine zC rfl rfl 7 #[.agg #[.int .i64 h, .int .i64 w, .int .i64 c, .int .i64 lo, .int .i64 hi, .slice oa on oc, .int .i64 ot]] (by kernel_rfl) (A1.out _ s44.below) ?_
          rintro e' w45 ⟨oa', oc', rfl, hq, hb⟩
          refine ⟨_, rfl, ?_⟩
          have s45 := s44.call hb
          have m45 := cr_base hq (c := W.heap.size) s44.size
          clear hb hq
          refine z1 5 s45.h3 (by kernel_rfl) ?_
          · refine zC rfl rfl 8 #[.agg #[.slice ra rn rc, .slice pa pn pc]] (by kernel_rfl) (A2.out _ s45.below) ?_
            rintro e' w46 ⟨ra', rc', pa', pc', rfl, hq1, hq2, hb⟩
            refine ⟨_, rfl, ?_⟩
            have s46 := s45.call hb
            have m46 := m45.below hb
            clear hb
            have c46 := hq1
            have q46 := hq2
            clear hq1 hq2
            have t1 := s46.sub (l' := [(B3, #[.int .i64 0, .int .i64 0, .int .i64 0, .int .i64 0, .int .i64 0, .slice none 0 0, .int .i64 0], 26), (B4, #[.slice none 0 0, .slice none 0 0], 30), (W.heap.size, #[.int .i64 h, .int .i64 w, .int .i64 c, .int .i64 lo, .int .i64 hi, .slice oa on oc, .int .i64 ot, .slice ra rn rc, .slice pa pn pc], 32)]) (by simp)
            refine zS 8 t1.h3 (by kernel_rfl) rfl rfl 26 (.tmp 3) (.tmp 11) rfl B3 #[.int .i64 h, .int .i64 w, .int .i64 c, .int .i64 lo, .int .i64 hi, .slice oa' on oc', .int .i64 ot] (by kernel_rfl) (by kernel_rfl) 26 #[.int .i64 0, .int .i64 0, .int .i64 0, .int .i64 0, .int .i64 0, .slice none 0 0, .int .i64 0] t1.h1 (by kernel_rfl) rfl (by simp [Value.oneCell']) ?_
            have u1 := m46.keep (w' := w46.setRow B3 #[.int .i64 h, .int .i64 w, .int .i64 c, .int .i64 lo, .int .i64 hi, .slice oa' on oc', .int .i64 ot]) (fun g c t ht => row_keep t1.h1 g c t (by rcases ht with rfl | rfl | rfl <;> decide))
            have u2 := owns_other c46 (w' := w46.setRow B3 #[.int .i64 h, .int .i64 w, .int .i64 c, .int .i64 lo, .int .i64 hi, .slice oa' on oc', .int .i64 ot]) (fun g c => row_keep t1.h1 g c _ (by decide))
            have u3 := q46.keep (w' := w46.setRow B3 #[.int .i64 h, .int .i64 w, .int .i64 c, .int .i64 lo, .int .i64 hi, .slice oa' on oc', .int .i64 ot]) (fun g c t ht => row_keep t1.h1 g c t (by rcases ht with rfl | rfl <;> decide))
            have t2 := (t1.row #[.int .i64 h, .int .i64 w, .int .i64 c, .int .i64 lo, .int .i64 hi, .slice oa' on oc', .int .i64 ot] (fun x hx => by simp only [List.mem_cons, List.not_mem_nil, or_false] at hx; rcases hx with rfl | rfl; exact ne_of_ty t1.h2 t1.h1 (by decide); exact ne_of_ty t1.h3 t1.h1 (by decide))).sub (l' := [(B4, #[.slice none 0 0, .slice none 0 0], 30), (B3, #[.int .i64 h, .int .i64 w, .int .i64 c, .int .i64 lo, .int .i64 hi, .slice oa' on oc', .int .i64 ot], 26), (W.heap.size, #[.int .i64 h, .int .i64 w, .int .i64 c, .int .i64 lo, .int .i64 hi, .slice oa on oc, .int .i64 ot, .slice ra rn rc, .slice pa pn pc], 32)]) (by simp)
            generalize World.setRow _ _ _ = v2 at u1 u2 u3 t2 ⊢
            refine zS 9 t2.h3 (by kernel_rfl) rfl rfl 30 (.tmp 4) (.tmp 14) rfl B4 #[.slice ra' rn rc', .slice pa' pn pc'] (by kernel_rfl) (by kernel_rfl) 30 #[.slice none 0 0, .slice none 0 0] t2.h1 (by kernel_rfl) rfl (by simp [Value.oneCell']) ?_
            have g1 := u1.keep (w' := v2.setRow B4 #[.slice ra' rn rc', .slice pa' pn pc']) (fun g c t ht => row_keep t2.h1 g c t (by rcases ht with rfl | rfl | rfl <;> decide))
            have g2 := owns_other u2 (w' := v2.setRow B4 #[.slice ra' rn rc', .slice pa' pn pc']) (fun g c => row_keep t2.h1 g c _ (by decide))
            have g3 := u3.keep (w' := v2.setRow B4 #[.slice ra' rn rc', .slice pa' pn pc']) (fun g c t ht => row_keep t2.h1 g c t (by rcases ht with rfl | rfl <;> decide))
            have t3 := t2.row #[.slice ra' rn rc', .slice pa' pn pc'] (fun x hx => by simp only [List.mem_cons, List.not_mem_nil, or_false] at hx; rcases hx with rfl | rfl; exact ne_of_ty t2.h2 t2.h1 (by decide); exact ne_of_ty t2.h3 t2.h1 (by decide))
            generalize World.setRow _ _ _ = v3 at g1 g2 g3 t3 ⊢
            exact doneC t3.h3 (by kernel_rfl) ⟨B3, B4, oa', oc', ra', rc', pa', pc', by kernel_rfl, t3, g1.l, owns_erow scs_len g2 HRL.out, g3.q⟩ _
  rintro a' w2 ⟨B3, B4, oa', oc', ra', rc', pa', pc', rfl, s2, g1, g2, g3⟩
  clear S0 A1 A2
  have S2 : Hid (St W w2 ([(B4, #[.slice ra' rn rc', .slice pa' pn pc'], 30), (B3, #[.int .i64 h, .int .i64 w, .int .i64 c, .int .i64 lo, .int .i64 hi, .slice oa' on oc', .int .i64 ot], 26), (W.heap.size, #[.int .i64 h, .int .i64 w, .int .i64 c, .int .i64 lo, .int .i64 hi, .slice oa on oc, .int .i64 ot, .slice ra rn rc, .slice pa pn pc], 32)])) := s2
  have G1 : Hid (LRow w2 oa' on oc' O Z B) := g1
  have G2 : Hid (ERow 2 scs w2 ra' rn rc' R) := g2
  have G3 : Hid (QRow w2 pa' pn pc' P) := g3
  obtain ⟨c4, f4, z4, c3, f3, z3, c1, f1, z1, -⟩ := s2.rules
  clear s2 g1 g2 g3
  go_wp2_with fail
  refine (A3.out _ S2.out.below).mono ?_
  rintro e' w3 ⟨rfl, hb⟩
  have s4 := ((S2.out.call hb).new (c := #[.int .i64 y1, .int .i64 y2, .int .i64 y3, .int .i64 y4, .int .i64 0, .int .i64 0, .int .i64 0, .int .i64 0, .int .i64 0]) (t := 36)).new (c := #[.int .i64 e1, .int .i64 e2, .int .i64 e3]) (t := 39)
  simp only [World.size_alloc] at s4
  have b4 := bt hb (bt (bal w3 (.cells #[.int .i64 y1, .int .i64 y2, .int .i64 y3, .int .i64 y4, .int .i64 0, .int .i64 0, .int .i64 0, .int .i64 0, .int .i64 0] 36)) (bal _ (.cells #[.int .i64 e1, .int .i64 e2, .int .i64 e3] 39)))
  clear hb c4 f4 z4 c3 f3 z3 c1 f1 z1 A3
  go_upto_region 3 with fail
  obtain ⟨B5, hB5⟩ : ∃ B5, w3.heap.size = B5 := ⟨_, rfl⟩
  obtain ⟨w4, hw4⟩ : ∃ w4, (w3.alloc (.cells #[.int .i64 y1, .int .i64 y2, .int .i64 y3, .int .i64 y4, .int .i64 0, .int .i64 0, .int .i64 0, .int .i64 0, .int .i64 0] 36)).alloc (.cells #[.int .i64 e1, .int .i64 e2, .int .i64 e3] 39) = w4 := ⟨_, rfl⟩
  rw [hw4, hB5] at s4
  rw [hw4] at b4
  rw [hw4, hB5]
  have S4 : Hid (St W w4 _) := s4
  have K1 : Hid (LRow w4 oa' on oc' O Z B) := G1.out.below b4
  have K2 : Hid (ERow 2 scs w4 ra' rn rc' R) := G2.out.below b4
  have K3 : Hid (QRow w4 pa' pn pc' P) := G3.out.below b4
  obtain ⟨c6, f6, z6, c5, f5, z5, c4, f4, z4, c3, f3, z3, c1, f1, z1, -⟩ := s4.rules
  clear hw4 hB5 s4 b4 S2 G1 G2 G3
  go_wp2_with fail
  refine (A4.out _ oa' oc' ra' rc' pa' pc' K1.out K2.out K3.out).mono ?_
  rintro e' w5 ⟨rfl, hb⟩
  have s6 := ((S4.out.call hb).new (c := #[.int .i64 y1, .int .i64 y2, .int .i64 y3, .int .i64 y4, .int .i64 0, .int .i64 0, .int .i64 0, .int .i64 0, .int .i64 0]) (t := 36)).new (c := #[.int .i64 e1, .int .i64 e2, .int .i64 e3]) (t := 39)
  simp only [World.size_alloc] at s6
  have b6 := bt hb (bt (bal w5 (.cells #[.int .i64 y1, .int .i64 y2, .int .i64 y3, .int .i64 y4, .int .i64 0, .int .i64 0, .int .i64 0, .int .i64 0, .int .i64 0] 36)) (bal _ (.cells #[.int .i64 e1, .int .i64 e2, .int .i64 e3] 39)))
  clear hb c6 f6 z6 c5 f5 z5 c4 f4 z4 c3 f3 z3 c1 f1 z1 A4
  go_upto_region 4 with fail
  obtain ⟨B7, hB7⟩ : ∃ B7, w5.heap.size = B7 := ⟨_, rfl⟩
  obtain ⟨w6, hw6⟩ : ∃ w6, (w5.alloc (.cells #[.int .i64 y1, .int .i64 y2, .int .i64 y3, .int .i64 y4, .int .i64 0, .int .i64 0, .int .i64 0, .int .i64 0, .int .i64 0] 36)).alloc (.cells #[.int .i64 e1, .int .i64 e2, .int .i64 e3] 39) = w6 := ⟨_, rfl⟩
  rw [hw6, hB7] at s6
  rw [hw6] at b6
  rw [hw6, hB7]
  have S6 : Hid (St W w6 _) := s6
  have J1 : Hid (LRow w6 oa' on oc' O Z B) := K1.out.below b6
  have J2 : Hid (ERow 2 scs w6 ra' rn rc' R) := K2.out.below b6
  have J3 : Hid (QRow w6 pa' pn pc' P) := K3.out.below b6
  clear hw6 hB7 s6 b6 S4 K1 K2 K3
  have h6 : St w6 w6 [] := St.start w6
  have F1 : Hid (∀ n : Wd w6 [], Calls Try.prog 11 #[] n.w fun e w' => e = .returned (.bool true) ∧ Below n.w.heap.size n.w w') := fun n => fixed15_any n.w
  have F2 : Hid (∀ n : Wd w6 [], Calls Try.prog 12 #[.agg #[.int .i64 h, .int .i64 w, .int .i64 c, .int .i64 lo, .int .i64 hi, .slice oa on oc, .int .i64 ot], .agg #[.slice ra rn rc, .slice pa pn pc]] n.w fun e w' => e = .returned (.agg #[.int .i64 x1, .int .i64 x2, .int .i64 x3]) ∧ Below n.w.heap.size n.w w') := fun n => A5.out _ (bt S6.out.below n.h.below)
  have F3 : Hid (∀ n : Wd w6 [], Calls Try.prog 13 #[.agg #[.int .i64 h, .int .i64 w, .int .i64 c, .int .i64 lo, .int .i64 hi, .slice oa' on oc', .int .i64 ot], .agg #[.slice ra' rn rc', .slice pa' pn pc']] n.w fun e w' => e = .returned (.agg #[.int .i64 x1, .int .i64 x2, .int .i64 x3]) ∧ Below n.w.heap.size n.w w') := fun n => A6.out _ oa' oc' ra' rc' pa' pc' (J1.out.below n.h.below) (J2.out.below n.h.below) (J3.out.below n.h.below)
  have F4 : Hid (∀ n : Wd w6 [], Calls Try.prog 14 #[.agg #[.int .i64 h, .int .i64 w, .int .i64 c, .int .i64 lo, .int .i64 hi, .slice oa on oc, .int .i64 ot], .agg #[.int .i64 h, .int .i64 w, .int .i64 c, .int .i64 lo, .int .i64 hi, .slice oa' on oc', .int .i64 ot]] n.w fun e w' => e = .returned (.bool true) ∧ Below n.w.heap.size n.w w') := fun n => A7.out _ oa' oc' (bt S6.out.below n.h.below) (J1.out.below n.h.below)
  have F5 : Hid (∀ n : Wd w6 [], Calls Try.prog 15 #[.agg #[.slice ra rn rc, .slice pa pn pc], .agg #[.slice ra' rn rc', .slice pa' pn pc']] n.w fun e w' => e = .returned (.bool true) ∧ Below n.w.heap.size n.w w') := fun n => A8.out _ ra' rc' pa' pc' (bt S6.out.below n.h.below) (J2.out.below n.h.below) (J3.out.below n.h.below)
  have Hbel : Hid (Below W.heap.size W w6) := S6.out.below
  obtain ⟨q8, y8, q7, y7, q6, y6, q5, y5, q4, y4', q3, y3', q1, y1', -⟩ := S6.out.rulesE
  have hne := Nonempty.intro (Wd.mk _ h6)
  clear S6 A5 A6 A7 A8 J1 J2 J3
  refine region_held h6 (by kernel_rfl) (by kernel_rfl) ?_
  repeat (go_big_quiet_step ((first
    | (go_at_call 11; exact held_of (F1.out _))
    | (go_at_call 12; exact held_of (F2.out _))
    | (go_at_call 13; exact held_of (F3.out _))
    | (go_at_call 14; exact held_of (F4.out _))
    | (go_at_call 15; exact held_of (F5.out _)))))
  refine wpQuiet_nil ?_
  intro _ hw'
  obtain ⟨nq, rfl⟩ := hw'
  go_wp2
  go_ret
  exact ⟨rfl, bt Hbel.out nq.h.below⟩
theorem certForms_walk (h w c lo hi : Int) (oa : Option Addr) (on oc : Nat) (ot : Int) (ra : Option Addr) (rn rc : Nat) (pa : Option Addr) (pn pc : Nat) (W : World) (_ : (Lit.int .i64 h).wf = true) (_ : (Lit.int .i64 w).wf = true) (_ : (Lit.int .i64 c).wf = true) (_ : (Lit.int .i64 lo).wf = true) (_ : (Lit.int .i64 hi).wf = true) (wo : ORow 22 (OpIn W) W oa on oc) (hr : on * 208 ≤ 140737488351232) (_ : (Lit.int .i64 ot).wf = true) (h1 : ORow 2 (fun cs => ∃ (b0 : Int) (b1 : Int), cs = [.int .i64 b0, .int .i64 b1] ∧ (Lit.int .i64 b0).wf = true ∧ (Lit.int .i64 b1).wf = true) W ra rn rc) (r1 : rn * 16 ≤ 140737488351232) (h2 : ORow 1 (PlIn W) W pa pn pc) (r2 : pn * 24 ≤ 140737488351232) :
    Calls Try.prog 3 #[.agg #[.int .i64 h, .int .i64 w, .int .i64 c, .int .i64 lo, .int .i64 hi, .slice oa on oc, .int .i64 ot, .slice ra rn rc, .slice pa pn pc]] W fun e w' => e = .returned (.bool true) ∧ Below W.heap.size W w' := by
  obtain ⟨O, Z, B, hL⟩ := lrow_of wo
  obtain ⟨R, g1⟩ := spans_of h1
  obtain ⟨P, g2⟩ := plans_of h2
  exact certForms_w h w c lo hi ot oa on oc O Z B ra rn rc R pa pn pc P W hL hr g1 g2 r1 r2
end Go.Proofs.Ytcjnhchjikcigaa
