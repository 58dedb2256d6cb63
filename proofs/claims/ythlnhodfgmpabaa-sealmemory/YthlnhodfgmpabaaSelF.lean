/- Which certificates have no bytes: hasForm and faultOf of package seal. -/
import Derived.Test.YthlnhodfgmpabaaSelP
import Derived.Test.YthlnhodfgmpabaaCeA
namespace Go.Proofs.Ythlnhodfgmpabaa.Sl
open Go.ChangeShapes Go.WideShapes Go.ChangeAt Go.RowKit
set_option linter.unusedVariables false
def wholeB (x : Int) : Bool := decide (0 ≤ x ∧ x ≤ 2147483647)
theorem wholeB_y {x : Int} (h : wholeB x = true) : 0 ≤ x ∧ x ≤ 2147483647 := by unfold wholeB at h; exact of_decide_eq_true h
theorem okB_is (p : Pl) : okB p = (wholeB p.1 && wholeB p.2.1) := by unfold okB wholeB; rw [Bool.eq_iff_iff]; simp
theorem retb {a b : Bool} (h : a = b) : Ending.returned (.bool a) = .returned (.bool b) := by rw [h]
theorem hasform_any (x : Int) (W : World) :
    Calls Try.prog 36 #[.int .i64 x] W fun e w' => e = .returned (.bool (wholeB x)) ∧ w' = W := by
  by_cases h : 0 ≤ x
  · have HR : Hid (decide (x ≤ 2147483647) = wholeB x) := by unfold Hid wholeB; simp [h]
    go_enter Try.func36, Try.ntmps36
    go_wp2
    go_ret
    exact ⟨retb HR.out, rfl⟩
  · have HR : Hid (false = wholeB x) := by unfold Hid wholeB; simp [h]
    go_enter Try.func36, Try.ntmps36
    go_wp2
    go_ret
    exact ⟨retb HR.out, rfl⟩
theorem whole_any (x : Int) (W : World) :
    Calls Try.prog 22 #[.int .i64 x] W fun e w' => e = .returned (.bool (wholeB x)) ∧ w' = W := by
  by_cases h : 0 ≤ x
  · have HR : Hid (decide (x ≤ 2147483647) = wholeB x) := by unfold Hid wholeB; simp [h]
    go_enter Try.func22, Try.ntmps22
    go_wp2
    go_ret
    exact ⟨retb HR.out, rfl⟩
  · have HR : Hid (false = wholeB x) := by unfold Hid wholeB; simp [h]
    go_enter Try.func22, Try.ntmps22
    go_wp2
    go_ret
    exact ⟨retb HR.out, rfl⟩
set_option maxHeartbeats 4000000 in
set_option maxRecDepth 100000 in
theorem faultof_any (ra : Option Addr) (rn rc : Nat) (R : List (Int × Int)) (pa : Option Addr) (pn pc : Nat) (P : List (List Pl)) (W : World) (hR : ERow 2 scs W ra rn rc R) (hP : QRow W pa pn pc P) (x1 x2 x3 : Int) (hX : fCe (R, P) = (x1, x2, x3)) :
    Calls Try.prog 20 #[.agg #[.slice ra rn rc, .slice pa pn pc]] W fun e w' => e = .returned (.agg #[.int .i64 x1, .int .i64 x2, .int .i64 x3]) ∧ Below W.heap.size W w' := by
  have l1 := hR.2.1
  have l2 := hR.2.2.1
  have l3 := hP.2.1
  have l4 := hP.2.2.1
  unfold maxLen at l2 l4
  have hrn : Hid (R.length = rn) := hR.1
  have hpn : Hid (P.length = pn) := hP.1
  have H2 : Hid (QRow W pa pn pc P) := hP
  have s0 := ((St.start W).new (c := #[.slice ra rn rc, .slice pa pn pc]) (t := 25)).new (c := #[.int .i64 0, .int .i64 0, .int .i64 0]) (t := 30)
  simp only [World.size_alloc] at s0
  have S0 : Hid (St W _ ([(W.heap.size + 1, #[.int .i64 0, .int .i64 0, .int .i64 0], 30), (W.heap.size, #[.slice ra rn rc, .slice pa pn pc], 25)])) := s0
  clear hR hP s0
  by_cases q1 : 65 < rn
  · have : (x1, x2, x3) = (42, 0, 0) := by rw [← hX]; unfold fCe; rw [if_pos (.inl (by show 65 < R.length; rw [hrn.out]; exact q1))]
    simp only [Prod.mk.injEq] at this
    obtain ⟨rfl, rfl, rfl⟩ := this
    clear hX H2
    go_enter Try.func20, Try.ntmps20
    go_wp2
    exact bodyPost_ret (v := .agg #[.int .i64 42, .int .i64 0, .int .i64 0]) (by simp [results, Try.results20, go_sem]) rfl ⟨rfl, bt (bal _ _) (bal _ _)⟩
  by_cases q2 : 64 < pn
  · have : (x1, x2, x3) = (42, 0, 0) := by rw [← hX]; unfold fCe; rw [if_pos (.inr (by show 64 < P.length; rw [hpn.out]; exact q2))]
    simp only [Prod.mk.injEq] at this
    obtain ⟨rfl, rfl, rfl⟩ := this
    clear hX H2
    go_enter Try.func20, Try.ntmps20
    go_wp2
    exact bodyPost_ret (v := .agg #[.int .i64 42, .int .i64 0, .int .i64 0]) (by simp [results, Try.results20, go_sem]) rfl ⟨rfl, bt (bal _ _) (bal _ _)⟩
  have HX : Hid (fLs P 0 = (x1, x2, x3)) := by
    unfold Hid; rw [← hX]; unfold fCe; rw [if_neg (by show ¬ (65 < R.length ∨ 64 < P.length); rw [hrn.out, hpn.out]; omega)]
  have q1' : rn ≤ 65 := by omega
  have q2' : pn ≤ 64 := by omega
  clear hX q1 q2
  go_enter Try.func20, Try.ntmps20
  go_wp2
  go_loopw [21] (fun i wr => ∃ k : Nat, k ≤ pn ∧ i = .int .i64 k ∧ fLs (P.drop k) k = (x1, x2, x3) ∧ St W wr ([(W.heap.size + 1, #[.int .i64 0, .int .i64 0, .int .i64 0], 30), (W.heap.size, #[.slice ra rn rc, .slice pa pn pc], 25)])) (fun i _ => pn - (intOf i).toNat)
  case atStart => exact ⟨0, Nat.zero_le _, rfl, by simpa using HX.out, S0.out⟩
  case round =>
    clear S0 HX
    obtain ⟨i, hi0, rfl, hp, sr⟩ := hrel
    by_cases hli : i < pn
    rotate_left
    · obtain rfl : i = pn := by omega
      rw [List.drop_of_length_le (by rw [hpn.out]; omega)] at hp
      unfold fLs at hp
      simp only [Prod.mk.injEq] at hp
      obtain ⟨rfl, rfl, rfl⟩ := hp
      obtain ⟨c1, f1, z1, c2, f2, z2, -⟩ := sr.rules
      have Hs : Hid (St W wr _) := sr
      clear sr H2
      go_wp2
      exact bodyPost_ret (v := .agg #[.int .i64 0, .int .i64 0, .int .i64 0]) (by simp [results, Try.results20, go_sem, *]) rfl ⟨rfl, set3b Hs.out.below (Nat.le_succ _)⟩
    · obtain ⟨x, l, ca, cc, rfl, hPk, hd, hcl, hE, hlr⟩ := (H2.out.below sr.below).at hli
      obtain ⟨ln, hln⟩ : ∃ ln, l.length = ln := ⟨_, rfl⟩
      rw [hln] at hcl hE hlr
      rw [hd] at hp
      have m1 := hE.2.1
      have m2 := hE.2.2.1
      unfold maxLen at m2
      have HLN : Hid (l.length = ln) := hln
      have HE : Hid (ERow 6 pcs wr ca ln cc l) := hE
      have HP : Hid (fLs (l :: P.drop (i + 1)) i = (x1, x2, x3)) := hp
      obtain ⟨c1, f1, z1, c2, f2, z2, -⟩ := sr.rules
      have Hsr : Hid (St W wr ([(W.heap.size + 1, #[.int .i64 0, .int .i64 0, .int .i64 0], 30), (W.heap.size, #[.slice ra rn rc, .slice (some x) pn pc], 25)])) := sr
      clear hPk hd hE hln hlr hp sr
      by_cases q3 : 1024 < ln
      · have hF : fLi ((i : Int) + 1) l = (42, (i : Int) + 1, 0) := fLi_long (by rw [HLN.out]; exact q3)
        have := HP.out
        rw [fLs_no (by rw [hF]; show (42 : Int) ≠ 0; decide), hF] at this
        simp only [Prod.mk.injEq] at this
        obtain ⟨rfl, rfl, rfl⟩ := this
        clear hF HP HE H2
        go_wp2
        exact bodyPost_ret (v := .agg #[.int .i64 42, .int .i64 ((i : Int) + 1), .int .i64 0]) (by simp [results, Try.results20, go_sem, *]) rfl ⟨rfl, set3b Hsr.out.below (Nat.le_succ _)⟩
      · have HL : Hid (fLi ((i : Int) + 1) l = fPl ((i : Int) + 1) l 0) := fLi_short (by rw [HLN.out]; exact q3)
        have q3' : ln ≤ 1024 := by omega
        obtain ⟨wo, hwo⟩ : ∃ wo, wo = wr := ⟨_, rfl⟩
        rw [← hwo] at HE Hsr c1 f1 z1 c2 f2 z2 hcl ⊢
        clear hwo q3
        go_wp2
        clear c1 f1 c2 f2
        go_loopw [34] (fun j wv => ∃ k : Nat, k ≤ ln ∧ j = .int .i64 k ∧ fLi ((i : Int) + 1) l = fPl ((i : Int) + 1) (l.drop k) k ∧ Below wo.heap.size wo wv) (fun j _ => ln - (intOf j).toNat)
        case atStart => exact ⟨0, Nat.zero_le _, rfl, by simpa using HL.out, Below.refl _ _⟩
        case round =>
          obtain ⟨j, hj0, rfl, hu, hbr⟩ := hrel
          have sr := Hsr.out.call hbr
          by_cases hlj : j < ln
          rotate_left
          · rw [List.drop_of_length_le (by rw [HLN.out]; omega)] at hu
            have HN : Hid (fLs (P.drop (i + 1)) (i + 1) = (x1, x2, x3)) := by unfold Hid; rw [← fLs_yes (by rw [hu]; rfl)]; exact HP.out
            have HS : Hid (St W wr ([(W.heap.size + 1, #[.int .i64 0, .int .i64 0, .int .i64 0], 30), (W.heap.size, #[.slice ra rn rc, .slice (some x) pn pc], 25)])) := sr
            clear hu hbr sr HP HL HE
            go_wp2
            go_roundw
            case rel => exact ⟨i + 1, by omega, by go_num, HN.out, HS.out⟩
            case measure => simp [intOf]; omega
          · obtain ⟨y, p, rfl, -, hd, hcx⟩ := (HE.out.below hbr).at hlj
            obtain ⟨p1, p2, p3, p4, p5, p6⟩ := p
            rw [hd] at hu
            have HU : Hid (fLi ((i : Int) + 1) l = fPl ((i : Int) + 1) ((p1, p2, p3, p4, p5, p6) :: l.drop (j + 1)) j) := hu
            have hcell : Hid (∀ q v, [.int .i64 p1, .int .i64 p2, .int .i64 p3, .int .i64 p4, .int .i64 p5, .int .i64 p6][q]? = some v → wr.cell? ((y.add (j * 6)).add q) = some v) := hcx
            have sb := sr.new (c := #[.int .i64 p1, .int .i64 p2, .int .i64 p3, .int .i64 p4, .int .i64 p5, .int .i64 p6]) (t := 47)
            have HB : Hid (Below wo.heap.size wo (wr.alloc (.cells #[.int .i64 p1, .int .i64 p2, .int .i64 p3, .int .i64 p4, .int .i64 p5, .int .i64 p6] 47))) := bt hbr (bal _ _)
            have HV1 : Hid (∀ w, _) := hasform_any p1
            have HV2 : Hid (∀ w, _) := hasform_any p2
            have hok := okB_is (p1, p2, p3, p4, p5, p6)
            simp only at hok
            clear hcx hd hu hbr sr
            go_upto_region 12 with (first
              | (refine wpList_load_any rfl 47 (.tmp 37) rfl _ rfl [.int .i64 p1, .int .i64 p2, .int .i64 p3, .int .i64 p4, .int .i64 p5, .int .i64 p6] _ hcell.out Try.underlying47 rfl (by kernel_rfl) ?_)
              | (refine wpList_st_new rfl 47 (.tmp 6) (.tmp 38) rfl wr _ #[.int .i64 p1, .int .i64 p2, .int .i64 p3, .int .i64 p4, .int .i64 p5, .int .i64 p6] rfl rfl (by kernel_rfl) rfl (by simp [Value.oneCell']) ?_))
            obtain ⟨B, hB⟩ : ∃ B, wr.heap.size = B := ⟨_, rfl⟩
            obtain ⟨wb, hwb⟩ : ∃ wb, wr.alloc (.cells #[.int .i64 p1, .int .i64 p2, .int .i64 p3, .int .i64 p4, .int .i64 p5, .int .i64 p6] 47) = wb := ⟨_, rfl⟩
            rw [hwb] at HB
            rw [hwb, hB] at sb
            rw [hwb]
            rw [hB]
            clear hwb hcell hB
            obtain ⟨c1, f1, z1, c2, f2, z2, c3, f3, z3, -⟩ := sb.rules
            have HSB : Hid (St W wb ((B, #[.int .i64 p1, .int .i64 p2, .int .i64 p3, .int .i64 p4, .int .i64 p5, .int .i64 p6], 47) :: [(W.heap.size + 1, #[.int .i64 0, .int .i64 0, .int .i64 0], 30), (W.heap.size, #[.slice ra rn rc, .slice (some x) pn pc], 25)])) := sb
            clear sb
            cases v1 : wholeB p1 with
            | false =>
              rw [v1] at HV1 hok
              have := HP.out
              rw [fLs_no (by rw [HU.out, fPl_no (by rw [hok]; rfl)]; show (2 : Int) ≠ 0; decide), HU.out, fPl_no (by rw [hok]; rfl)] at this
              simp only [Prod.mk.injEq] at this
              obtain ⟨rfl, rfl, rfl⟩ := this
              clear HP HU HE H2 hok
              go_wp2_with fail
              refine (HV1.out _).mono ?_
              rintro e w5 ⟨rfl, rfl⟩
              go_wp2
              exact bodyPost_ret (v := .agg #[.int .i64 2, .int .i64 ((i : Int) + 1), .int .i64 ((j : Int) + 1)]) (by simp [results, Try.results20, go_sem, *]) rfl ⟨rfl, set3b HSB.out.below (Nat.le_succ _)⟩
            | true =>
              rw [v1] at HV1 hok
              cases v2 : wholeB p2 with
              | false =>
                rw [v2] at HV2 hok
                have := HP.out
                rw [fLs_no (by rw [HU.out, fPl_no (by rw [hok]; rfl)]; show (2 : Int) ≠ 0; decide), HU.out, fPl_no (by rw [hok]; rfl)] at this
                simp only [Prod.mk.injEq] at this
                obtain ⟨rfl, rfl, rfl⟩ := this
                clear HP HU HE H2 hok
                go_wp2_with fail
                refine (HV1.out _).mono ?_
                rintro e w5 ⟨rfl, rfl⟩
                go_wp2_with fail
                refine (HV2.out _).mono ?_
                rintro e w5 ⟨rfl, rfl⟩
                go_wp2
                exact bodyPost_ret (v := .agg #[.int .i64 2, .int .i64 ((i : Int) + 1), .int .i64 ((j : Int) + 1)]) (by simp [results, Try.results20, go_sem, *]) rfl ⟨rfl, set3b HSB.out.below (Nat.le_succ _)⟩
              | true =>
                rw [v2] at HV2 hok
                have HU2 : Hid (fLi ((i : Int) + 1) l = fPl ((i : Int) + 1) (l.drop (j + 1)) (j + 1)) := by unfold Hid; rw [HU.out, fPl_yes (by rw [hok]; rfl)]
                clear HU hok
                go_wp2_with fail
                refine (HV1.out _).mono ?_
                rintro e w5 ⟨rfl, rfl⟩
                go_wp2_with fail
                refine (HV2.out _).mono ?_
                rintro e w5 ⟨rfl, rfl⟩
                go_wp2
                go_roundw
                case rel => exact ⟨j + 1, by omega, by go_num, HU2.out, HB.out⟩
                case measure => simp [intOf]; omega
end Go.Proofs.Ythlnhodfgmpabaa.Sl
