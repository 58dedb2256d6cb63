/- The document's Encode of layer 16. Written by tools/gen/SelN.py. -/
import Derived.Test.YthlnhodfgmpabaaSelJ
namespace Go.Proofs.Ythlnhodfgmpabaa.Sl
open Wr
open Go.ChangeShapes Go.WideShapes Go.ChangeAt Go.RowKit
set_option linter.unusedVariables false
/-- What the document's Encode answers. -/
def REnc (c : CeD) (x1 x2 x3 : Int) (W w' : World) (e : Ending) : Prop := ∃ v, e = .returned (.tuple #[v, .agg #[.int .i64 x1, .int .i64 x2, .int .i64 x3]]) ∧ (x1 ≠ 0 → v = .slice none 0 0) ∧ (x1 = 0 → Wr.Own w' W.heap.size v (eAll c) ∧ v ≠ .slice none 0 0)
set_option maxHeartbeats 4000000 in
set_option maxRecDepth 100000 in
theorem renc_any (ra : Option Addr) (rn rc : Nat) (R : List (Int × Int)) (pa : Option Addr) (pn pc : Nat) (P : List (List Pl)) (W : World) (hR : ERow 2 scs W ra rn rc R) (hP : QRow W pa pn pc P) (x1 x2 x3 : Int) (hX : fCe (R, P) = (x1, x2, x3)) (h64 : C64 (R, P)) :
    Calls Try.prog 11 #[.agg #[.slice ra rn rc, .slice pa pn pc]] W fun e w' => REnc (R, P) x1 x2 x3 W w' e ∧ Below W.heap.size W w' := by
  have HX0 : Hid (fCe (R, P) = (x1, x2, x3)) := hX
  have H64 : Hid (C64 (R, P)) := h64
  have HR0 : Hid (ERow 2 scs W ra rn rc R) := hR
  clear h64
  have l1 := hR.2.1
  have l2 := hR.2.2.1
  have l3 := hP.2.1
  have l4 := hP.2.2.1
  unfold maxLen at l2 l4
  have hrn : Hid (R.length = rn) := hR.1
  have hpn : Hid (P.length = pn) := hP.1
  have H2 : Hid (QRow W pa pn pc P) := hP
  have s0 := ((St.start W).new (c := #[.slice ra rn rc, .slice pa pn pc]) (t := 25)).new (c := #[.int .i64 0, .int .i64 0, .int .i64 0]) (t := 30)
  simp only [World.size_alloc] at s0
  have S0 : Hid (St W _ ([(W.heap.size + 1, #[.int .i64 0, .int .i64 0, .int .i64 0], 30), (W.heap.size, #[.slice ra rn rc, .slice pa pn pc], 25)])) := s0
  clear hR hP s0
  by_cases q1 : 65 < rn
  · have : (x1, x2, x3) = (42, 0, 0) := by rw [← hX]; unfold fCe; rw [if_pos (.inl (by show 65 < R.length; rw [hrn.out]; exact q1))]
    simp only [Prod.mk.injEq] at this
    obtain ⟨rfl, rfl, rfl⟩ := this
    clear hX H2
    go_enter Try.func11, Try.ntmps11
    go_wp2
    exact bodyPost_ret (v := .tuple #[.slice none 0 0, .agg #[.int .i64 42, .int .i64 0, .int .i64 0]]) (by simp [results, Try.results11, go_sem]) rfl ⟨⟨_, rfl, fun _ => rfl, fun h => absurd h (by decide)⟩, bt (bal _ _) (bal _ _)⟩
  by_cases q2 : 64 < pn
  · have : (x1, x2, x3) = (42, 0, 0) := by rw [← hX]; unfold fCe; rw [if_pos (.inr (by show 64 < P.length; rw [hpn.out]; exact q2))]
    simp only [Prod.mk.injEq] at this
    obtain ⟨rfl, rfl, rfl⟩ := this
    clear hX H2
    go_enter Try.func11, Try.ntmps11
    go_wp2
    exact bodyPost_ret (v := .tuple #[.slice none 0 0, .agg #[.int .i64 42, .int .i64 0, .int .i64 0]]) (by simp [results, Try.results11, go_sem]) rfl ⟨⟨_, rfl, fun _ => rfl, fun h => absurd h (by decide)⟩, bt (bal _ _) (bal _ _)⟩
  have HX : Hid (fLs P 0 = (x1, x2, x3)) := by
    unfold Hid; rw [← hX]; unfold fCe; rw [if_neg (by show ¬ (65 < R.length ∨ 64 < P.length); rw [hrn.out, hpn.out]; omega)]
  have q1' : rn ≤ 65 := by omega
  have q2' : pn ≤ 64 := by omega
  clear hX q1 q2
  go_enter Try.func11, Try.ntmps11
  go_wp2
  go_loopw [22] (fun i wr => ∃ k : Nat, k ≤ pn ∧ i = .int .i64 k ∧ fLs (P.drop k) k = (x1, x2, x3) ∧ St W wr ([(W.heap.size + 1, #[.int .i64 0, .int .i64 0, .int .i64 0], 30), (W.heap.size, #[.slice ra rn rc, .slice pa pn pc], 25)])) (fun i _ => pn - (intOf i).toNat)
  case atStart => exact ⟨0, Nat.zero_le _, rfl, by simpa using HX.out, S0.out⟩
  case round =>
    clear S0 HX
    obtain ⟨i, hi0, rfl, hp, sr⟩ := hrel
    by_cases hli : i < pn
    rotate_left
    · obtain rfl : i = pn := by omega
      rw [List.drop_of_length_le (by rw [hpn.out]; omega)] at hp
      unfold fLs at hp
      simp only [Prod.mk.injEq] at hp
      obtain ⟨rfl, rfl, rfl⟩ := hp
      obtain ⟨c1, f1, z1, c2, f2, z2, -⟩ := sr.rules
      have Hs : Hid (St W wr _) := sr
      have HF : Hid (CeF (R, P)) := (fCe_0 (by rw [HX0.out]) H64.out).2
      have HR1 : Hid (ERow 2 scs wr ra rn rc R) := HR0.out.below sr.below
      have HP1 : Hid (QRow wr pa i pc P) := H2.out.below sr.below
      clear sr H2
      go_wp2_with fail
      refine (rbytes_any ra rn rc R pa i pc P _ HR1.out HP1.out HF.out).mono ?_
      rintro e w5 ⟨v5, rfl, own5, nn5, b5⟩
      obtain ⟨ad5, an5, ac5, rfl⟩ := own_ltr own5 nn5
      have s5 := Hs.out.call b5
      have S5 : Hid (St W w5 _) := s5
      have O5 : Hid (Wr.Own w5 W.heap.size (.slice (some ad5) an5 ac5) (eAll (R, P))) := own5.base Hs.out.size
      clear c1 f1 z1 c2 f2 z2
      obtain ⟨c1, f1, z1, c2, f2, z2, -⟩ := s5.rules
      clear own5 nn5 b5 s5
      go_wp2
      exact bodyPost_ret (v := .tuple #[.slice (some ad5) an5 ac5, .agg #[.int .i64 0, .int .i64 0, .int .i64 0]]) (by simp [results, Try.results11, go_sem, *]) rfl ⟨⟨_, rfl, fun h => absurd rfl h, fun _ => ⟨own_set3 O5.out S5.out.h1 (by decide), by simp⟩⟩, set3b S5.out.below (Nat.le_succ _)⟩
    · obtain ⟨x, l, ca, cc, rfl, hPk, hd, hcl, hE, hlr⟩ := (H2.out.below sr.below).at hli
      obtain ⟨ln, hln⟩ : ∃ ln, l.length = ln := ⟨_, rfl⟩
      rw [hln] at hcl hE hlr
      rw [hd] at hp
      have m1 := hE.2.1
      have m2 := hE.2.2.1
      unfold maxLen at m2
      have HLN : Hid (l.length = ln) := hln
      have HE : Hid (ERow 6 pcs wr ca ln cc l) := hE
      have HP : Hid (fLs (l :: P.drop (i + 1)) i = (x1, x2, x3)) := hp
      obtain ⟨c1, f1, z1, c2, f2, z2, -⟩ := sr.rules
      have Hsr : Hid (St W wr ([(W.heap.size + 1, #[.int .i64 0, .int .i64 0, .int .i64 0], 30), (W.heap.size, #[.slice ra rn rc, .slice (some x) pn pc], 25)])) := sr
      clear hPk hd hE hln hlr hp sr
      by_cases q3 : 1024 < ln
      · have hF : fLi ((i : Int) + 1) l = (42, (i : Int) + 1, 0) := fLi_long (by rw [HLN.out]; exact q3)
        have := HP.out
        rw [fLs_no (by rw [hF]; show (42 : Int) ≠ 0; decide), hF] at this
        simp only [Prod.mk.injEq] at this
        obtain ⟨rfl, rfl, rfl⟩ := this
        clear hF HP HE H2
        go_wp2
        exact bodyPost_ret (v := .tuple #[.slice none 0 0, .agg #[.int .i64 42, .int .i64 ((i : Int) + 1), .int .i64 0]]) (by simp [results, Try.results11, go_sem, *]) rfl ⟨⟨_, rfl, fun _ => rfl, fun h => absurd h (by decide)⟩, set3b Hsr.out.below (Nat.le_succ _)⟩
      · have HL : Hid (fLi ((i : Int) + 1) l = fPl ((i : Int) + 1) l 0) := fLi_short (by rw [HLN.out]; exact q3)
        have q3' : ln ≤ 1024 := by omega
        obtain ⟨wo, hwo⟩ : ∃ wo, wo = wr := ⟨_, rfl⟩
        rw [← hwo] at HE Hsr c1 f1 z1 c2 f2 z2 hcl ⊢
        clear hwo q3
        go_wp2
        clear c1 f1 c2 f2
        go_loopw [35] (fun j wv => ∃ k : Nat, k ≤ ln ∧ j = .int .i64 k ∧ fLi ((i : Int) + 1) l = fPl ((i : Int) + 1) (l.drop k) k ∧ Below wo.heap.size wo wv) (fun j _ => ln - (intOf j).toNat)
        case atStart => exact ⟨0, Nat.zero_le _, rfl, by simpa using HL.out, Below.refl _ _⟩
        case round =>
          obtain ⟨j, hj0, rfl, hu, hbr⟩ := hrel
          have sr := Hsr.out.call hbr
          by_cases hlj : j < ln
          rotate_left
          · rw [List.drop_of_length_le (by rw [HLN.out]; omega)] at hu
            have HN : Hid (fLs (P.drop (i + 1)) (i + 1) = (x1, x2, x3)) := by unfold Hid; rw [← fLs_yes (by rw [hu]; rfl)]; exact HP.out
            have HS : Hid (St W wr ([(W.heap.size + 1, #[.int .i64 0, .int .i64 0, .int .i64 0], 30), (W.heap.size, #[.slice ra rn rc, .slice (some x) pn pc], 25)])) := sr
            clear hu hbr sr HP HL HE
            go_wp2
            go_roundw
            case rel => exact ⟨i + 1, by omega, by go_num, HN.out, HS.out⟩
            case measure => simp [intOf]; omega
          · obtain ⟨y, p, rfl, -, hd, hcx⟩ := (HE.out.below hbr).at hlj
            obtain ⟨p1, p2, p3, p4, p5, p6⟩ := p
            rw [hd] at hu
            have HU : Hid (fLi ((i : Int) + 1) l = fPl ((i : Int) + 1) ((p1, p2, p3, p4, p5, p6) :: l.drop (j + 1)) j) := hu
            have hcell : Hid (∀ q v, [.int .i64 p1, .int .i64 p2, .int .i64 p3, .int .i64 p4, .int .i64 p5, .int .i64 p6][q]? = some v → wr.cell? ((y.add (j * 6)).add q) = some v) := hcx
            have sb := sr.new (c := #[.int .i64 p1, .int .i64 p2, .int .i64 p3, .int .i64 p4, .int .i64 p5, .int .i64 p6]) (t := 47)
            have HB : Hid (Below wo.heap.size wo (wr.alloc (.cells #[.int .i64 p1, .int .i64 p2, .int .i64 p3, .int .i64 p4, .int .i64 p5, .int .i64 p6] 47))) := bt hbr (bal _ _)
            have HV1 : Hid (∀ w, _) := whole_any p1
            have HV2 : Hid (∀ w, _) := whole_any p2
            have hok := okB_is (p1, p2, p3, p4, p5, p6)
            simp only at hok
            clear hcx hd hu hbr sr
            go_upto_region 12 with (first
              | (refine wpList_load_any rfl 47 (.tmp 38) rfl _ rfl [.int .i64 p1, .int .i64 p2, .int .i64 p3, .int .i64 p4, .int .i64 p5, .int .i64 p6] _ hcell.out Try.underlying47 rfl (by kernel_rfl) ?_)
              | (refine wpList_st_new rfl 47 (.tmp 7) (.tmp 39) rfl wr _ #[.int .i64 p1, .int .i64 p2, .int .i64 p3, .int .i64 p4, .int .i64 p5, .int .i64 p6] rfl rfl (by kernel_rfl) rfl (by simp [Value.oneCell']) ?_))
            obtain ⟨B, hB⟩ : ∃ B, wr.heap.size = B := ⟨_, rfl⟩
            obtain ⟨wb, hwb⟩ : ∃ wb, wr.alloc (.cells #[.int .i64 p1, .int .i64 p2, .int .i64 p3, .int .i64 p4, .int .i64 p5, .int .i64 p6] 47) = wb := ⟨_, rfl⟩
            rw [hwb] at HB
            rw [hwb, hB] at sb
            rw [hwb]
            rw [hB]
            clear hwb hcell hB
            obtain ⟨c1, f1, z1, c2, f2, z2, c3, f3, z3, -⟩ := sb.rules
            have HSB : Hid (St W wb ((B, #[.int .i64 p1, .int .i64 p2, .int .i64 p3, .int .i64 p4, .int .i64 p5, .int .i64 p6], 47) :: [(W.heap.size + 1, #[.int .i64 0, .int .i64 0, .int .i64 0], 30), (W.heap.size, #[.slice ra rn rc, .slice (some x) pn pc], 25)])) := sb
            clear sb
            cases v1 : wholeB p1 with
            | false =>
              rw [v1] at HV1 hok
              have := HP.out
              rw [fLs_no (by rw [HU.out, fPl_no (by rw [hok]; rfl)]; show (2 : Int) ≠ 0; decide), HU.out, fPl_no (by rw [hok]; rfl)] at this
              simp only [Prod.mk.injEq] at this
              obtain ⟨rfl, rfl, rfl⟩ := this
              clear HP HU HE H2 hok
              go_wp2_with fail
              refine (HV1.out _).mono ?_
              rintro e w5 ⟨rfl, rfl⟩
              go_wp2
              exact bodyPost_ret (v := .tuple #[.slice none 0 0, .agg #[.int .i64 2, .int .i64 ((i : Int) + 1), .int .i64 ((j : Int) + 1)]]) (by simp [results, Try.results11, go_sem, *]) rfl ⟨⟨_, rfl, fun _ => rfl, fun h => absurd h (by decide)⟩, set3b HSB.out.below (Nat.le_succ _)⟩
            | true =>
              rw [v1] at HV1 hok
              cases v2 : wholeB p2 with
              | false =>
                rw [v2] at HV2 hok
                have := HP.out
                rw [fLs_no (by rw [HU.out, fPl_no (by rw [hok]; rfl)]; show (2 : Int) ≠ 0; decide), HU.out, fPl_no (by rw [hok]; rfl)] at this
                simp only [Prod.mk.injEq] at this
                obtain ⟨rfl, rfl, rfl⟩ := this
                clear HP HU HE H2 hok
                go_wp2_with fail
                refine (HV1.out _).mono ?_
                rintro e w5 ⟨rfl, rfl⟩
                go_wp2_with fail
                refine (HV2.out _).mono ?_
                rintro e w5 ⟨rfl, rfl⟩
                go_wp2
                exact bodyPost_ret (v := .tuple #[.slice none 0 0, .agg #[.int .i64 2, .int .i64 ((i : Int) + 1), .int .i64 ((j : Int) + 1)]]) (by simp [results, Try.results11, go_sem, *]) rfl ⟨⟨_, rfl, fun _ => rfl, fun h => absurd h (by decide)⟩, set3b HSB.out.below (Nat.le_succ _)⟩
              | true =>
                rw [v2] at HV2 hok
                have HU2 : Hid (fLi ((i : Int) + 1) l = fPl ((i : Int) + 1) (l.drop (j + 1)) (j + 1)) := by unfold Hid; rw [HU.out, fPl_yes (by rw [hok]; rfl)]
                clear HU hok
                go_wp2_with fail
                refine (HV1.out _).mono ?_
                rintro e w5 ⟨rfl, rfl⟩
                go_wp2_with fail
                refine (HV2.out _).mono ?_
                rintro e w5 ⟨rfl, rfl⟩
                go_wp2
                go_roundw
                case rel => exact ⟨j + 1, by omega, by go_num, HU2.out, HB.out⟩
                case measure => simp [intOf]; omega
end Go.Proofs.Ythlnhodfgmpabaa.Sl
