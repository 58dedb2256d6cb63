/- PlainMemory, whatever it is handed. -/
import Derived.Test.YtmcdpbnpnifdfaaGreatGm34
/- PlainMemory, whatever it is handed. -/
namespace Go.Proofs.YtmcdpbnpnifdfaaGreat
open Go.ChangeShapes Go.WideShapes Go.ChangeAt Go.RowKit
set_option linter.unusedVariables false
theorem tn_short {O : Nat → Nat → Int} {Z B : Nat → List Int} {h w c lo hi ot t wk : Int} {on : Nat} {L : List (Int × Int × Int)} {x : List Int} (q : gtR O h w c lo hi ot on = (0, t, L, wk)) (hx : (x.length : Int) = h * w * c) (h8 : ∀ v ∈ x, I8 v) : ∀ i, ((tnL O Z B L x on).getD i []).length ≤ 16384 := by
  intro i
  by_cases hi : i ≤ on
  · rw [tnL_get _ _ _ _ _ hi]
    have hF := (tn_facts (Z := Z) (B := B) q hx h8 i hi).1
    obtain ⟨hx', rfl, q2⟩ := gtR_st q
    obtain ⟨h1, h2, -, -⟩ := stG_inv (show vS3 (h, w, c) = true from (ouE_0 hx').1) on L wk q2
    have hm : L.getD i (0, 0, 0) ∈ L := by
      have : i < L.length := by omega
      rw [List.getD_eq_getElem?_getD, List.getElem?_eq_getElem this]
      exact List.getElem_mem this
    have hv := vS_yes (h2 _ hm)
    have := hv.2.2.2
    omega
  · rw [List.getD_eq_getElem?_getD, List.getElem?_eq_none (by rw [tnL_len]; omega)]
    simp
theorem plainMemory_walk (h w c lo hi : Int) (oa : Option Addr) (on oc : Nat) (ot : Int) (ad : Option Addr) (n cap : Nat) (xs : List Int) (W : World) (_ : (Lit.int .i64 h).wf = true) (_ : (Lit.int .i64 w).wf = true) (_ : (Lit.int .i64 c).wf = true) (_ : (Lit.int .i64 lo).wf = true) (_ : (Lit.int .i64 hi).wf = true)
    (wo : ORow 22 (OpIn W) W oa on oc) (hr : on * 208 ≤ 140737488351232) (_ : (Lit.int .i64 ot).wf = true) (hX : IRow .i8 W ad n cap xs) (hrx : n * 1 ≤ 140737488351232) :
    Calls Tryz.prog 4 #[.agg #[.int .i64 h, .int .i64 w, .int .i64 c, .int .i64 lo, .int .i64 hi, .slice oa on oc, .int .i64 ot], .slice ad n cap] W fun e w' => e = .returned (.bool true) ∧ Below W.heap.size W w' := by
  obtain ⟨O, Z, B, hL⟩ := lrow_of wo
  have hon : on ≤ 1000000000000 := by omega
  obtain ⟨Re, Ra, RL, Rw, hR⟩ : ∃ Re Ra RL Rw, gtR O h w c lo hi ot on = (Re, Ra, RL, Rw) := ⟨_, _, _, _, rfl⟩
  by_cases he : Re = 0
  · subst he
    obtain ⟨rfl, -, h64, -, -, -⟩ := gtR_ok hR
    cases hin : inB h w c lo hi xs with
    | false =>
      refine memory_w h w c lo hi ot oa on oc W ad n cap xs hX hrx 220 0 [] 0 (fun q => by cases q) (fun W' ad' cap' hb hX' => ?_) (fun W' ad' cap' hb hX' => ?_) (fun W' hb => ?_)
      · exact (tensors_in h w c lo hi ot oa on oc O Z B W' (hL.below hb) ad' n cap' xs hX' Rw RL hR hin).mono fun e w' ⟨q1, q2⟩ => ⟨⟨_, q1, (fun q => by cases q), (fun _ => rfl)⟩, q2⟩
      · exact (eval_bad h w c lo hi ot oa on oc W' ad' n cap' 220 0 (by decide) (fun W2 hb2 => tensors_in h w c lo hi ot oa on oc O Z B W2 ((hL.below hb).below hb2) ad' n cap' xs (hX'.below hb2) Rw RL hR hin)).mono fun e w' ⟨q1, q2⟩ => ⟨⟨_, q1, (fun q => by cases q), (fun _ => rfl)⟩, q2⟩
      · exact (rtensors_in h w c lo hi ot oa on oc O Z B W' (hL.below hb) ad n cap xs (hX.below hb) hon Rw RL hR hin).mono fun e w' ⟨q1, q2⟩ => ⟨⟨_, q1, (fun q => by cases q), (fun _ => rfl)⟩, q2⟩
    | true =>
      obtain ⟨-, -, -, o1, o2⟩ := ouE_0 (gtR_st hR).1
      obtain ⟨io, hio⟩ := Int.eq_ofNat_of_zero_le o1
      have hio2 : io ≤ on := by omega
      refine memory_w h w c lo hi ot oa on oc W ad n cap xs hX hrx 0 0 (tnL O Z B RL xs on) io (fun _ => ⟨tnL_len _ _ _ _ _ _, hio2, h64, tn_short hR (inB_yes hin).1 hX.i8⟩) (fun W' ad' cap' hb hX' => ?_) (fun W' ad' cap' hb hX' => ?_) (fun W' hb => ?_)
      · exact (tensors_ok h w c lo hi ot oa on oc O Z B W' (hL.below hb) ad' n cap' xs hX' Rw RL hR hin).mono fun e w' ⟨⟨v, q1, q3⟩, q2⟩ => ⟨⟨v, q1, fun _ => q3, fun q => absurd rfl q⟩, q2⟩
      · exact (eval_ok h w c lo hi ot oa on oc O Z B W' (hL.below hb) ad' n cap' xs hX' Rw RL hR hin io hio hio2).mono fun e w' ⟨⟨v, q1, q3⟩, q2⟩ => ⟨⟨v, q1, fun _ => by rw [tnL_get _ _ _ _ _ hio2]; exact q3, fun q => absurd rfl q⟩, q2⟩
      · exact (rtensors_ok h w c lo hi ot oa on oc O Z B W' (hL.below hb) ad n cap xs (hX.below hb) hon Rw RL hR hin).mono fun e w' ⟨⟨v, q1, q3⟩, q2⟩ => ⟨⟨v, q1, fun _ => q3, fun q => absurd rfl q⟩, q2⟩
  · refine memory_w h w c lo hi ot oa on oc W ad n cap xs hX hrx Re Ra [] 0 (fun q => absurd q he) (fun W' ad' cap' hb hX' => ?_) (fun W' ad' cap' hb hX' => ?_) (fun W' hb => ?_)
    · exact (tensors_bad h w c lo hi ot oa on oc O Z B W' (hL.below hb) ad' n cap' xs hX' Re Ra Rw RL hR he).mono fun e w' ⟨q1, q2⟩ => ⟨⟨_, q1, fun q => absurd q he, fun _ => rfl⟩, q2⟩
    · exact (eval_bad h w c lo hi ot oa on oc W' ad' n cap' Re Ra he (fun W2 hb2 => tensors_bad h w c lo hi ot oa on oc O Z B W2 ((hL.below hb).below hb2) ad' n cap' xs (hX'.below hb2) Re Ra Rw RL hR he)).mono fun e w' ⟨q1, q2⟩ => ⟨⟨_, q1, fun q => absurd q he, fun _ => rfl⟩, q2⟩
    · exact (rtensors_bad h w c lo hi ot oa on oc O Z B W' (hL.below hb) ad n cap xs (hX.below hb) hon Re Ra Rw RL hR he).mono fun e w' ⟨q1, q2⟩ => ⟨⟨_, q1, fun q => absurd q he, fun _ => rfl⟩, q2⟩
end Go.Proofs.YtmcdpbnpnifdfaaGreat
