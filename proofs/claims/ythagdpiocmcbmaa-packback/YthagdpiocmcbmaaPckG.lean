/- The walks of PackBack and PackForms. -/
import Derived.Test.YthagdpiocmcbmaaPckF
namespace Go.Proofs.Ythagdpiocmcbmaa
open Wr
open Go.ChangeShapes Go.WideShapes Go.ChangeAt Go.RowKit
set_option linter.unusedVariables false
theorem eall_le {m : ModD} {n : Nat} (h : n = (eAll m).length) (hr : n ≤ 100000000) : n ≤ 140737488355328 := by omega
theorem eAll_le {h w c lo hi ot : Int} {on : Nat} {O : Nat → Nat → Int} {Z B : Nat → List Int} (hF : OFit on O Z B) (h64 : In64 [lo, hi]) : (eAll (dMod h w c lo hi ot on O Z B)).length ≤ 100000000 := by
  have a1 := eU_le [h, w, c]
  have a2 := eS_le [lo, hi] h64
  have a3 := eOps_le hF on (Nat.le_refl _)
  have a4 := put_le (n := on) (by have := hF.1; omega)
  have a5 := putR_ten (u64_lt ot)
  have a6 := hF.1
  unfold eAll eMod dMod
  rw [dOps_len]
  simp only [List.length_append, List.length_cons, List.length_nil, head4] at *
  omega
set_option maxHeartbeats 8000000 in
set_option maxRecDepth 100000 in
theorem packBack_walk (h w c lo hi : Int) (oa : Option Addr) (on oc : Nat) (ot : Int) (W : World) (_ : (Lit.int .i64 h).wf = true) (_ : (Lit.int .i64 w).wf = true) (_ : (Lit.int .i64 c).wf = true) (_ : (Lit.int .i64 lo).wf = true) (_ : (Lit.int .i64 hi).wf = true)
    (wo : ORow 22 (OpIn W) W oa on oc) (hr : on * 208 ≤ 140737488351232) (_ : (Lit.int .i64 ot).wf = true) :
    Calls Try.prog 4 #[.agg #[.int .i64 h, .int .i64 w, .int .i64 c, .int .i64 lo, .int .i64 hi, .slice oa on oc, .int .i64 ot]] W fun e w' => e = .returned (.bool true) ∧ Below W.heap.size W w' := by
  rename_i x1 x2 x3 x4 x5 x6
  clear x1 x2 x3 x4 x5 x6
  obtain ⟨O, Z, B, hL⟩ := lrow_of wo
  clear wo
  obtain ⟨x, t, L, wk, hG⟩ : ∃ x t L wk, gtR O h w c lo hi ot on = (x, t, L, wk) := ⟨_, _, _, _, rfl⟩
  have s0 := (St.start W).new (c := #[.int .i64 h, .int .i64 w, .int .i64 c, .int .i64 lo, .int .i64 hi, .slice oa on oc, .int .i64 ot]) (t := 26)
  have L0 : Hid (LRow _ oa on oc O Z B) := hL.below s0.below
  have S0 : Hid (St W _ _) := s0
  by_cases hx : x = 0
  · subst hx
    have hG' : Hid (gtR O h w c lo hi ot on = (0, t, L, wk)) := hG
    have hln : Hid (Lens on O Z B) := lens_of hL
    have hfit := mod_fits hG (lens_of hL)
    have hle : Hid ((eAll (dMod h w c lo hi ot on O Z B)).length ≤ 100000000) := eAll_le hfit.2.1 hfit.2.2
    clear hG hL s0 hfit
    go_enter Try.func4, Try.ntmps4
    go_wp2_with fail
    refine (encode_ok h w c lo hi ot oa on oc O Z B _ L0.out t L wk hG'.out).mono ?_
    rintro e w1 ⟨v, rfl, own, nn, b1⟩
    obtain ⟨d, n, cc, rfl, R1, hn⟩ := Own.rw own nn
    have hn' : Hid (n = (eAll (dMod h w c lo hi ot on O Z B)).length) := hn
    have s1 := (S0.out.call b1).new (c := #[.int .i64 0, .int .i64 0, .int .i64 0]) (t := 31)
    have B1 := bt b1 (bal w1 (.cells #[.int .i64 0, .int .i64 0, .int .i64 0] 31))
    have L1 : Hid (LRow _ oa on oc O Z B) := L0.out.below B1
    have V1 : Hid (Wr.Row _ (some d) n cc (eAll (dMod h w c lo hi ot on O Z B))) := R1.below (bal w1 (.cells #[.int .i64 0, .int .i64 0, .int .i64 0] 31))
    have S1 : Hid (St W _ _) := s1
    clear own nn R1 b1 s1 B1 L0 S0 hn
    go_wp2_with fail
    refine (fixed9_any _).mono ?_
    rintro e w2 ⟨rfl, b2⟩
    have s2 := S1.out.call b2
    have L2 : Hid (LRow w2 oa on oc O Z B) := L1.out.below b2
    have V2 : Hid (Wr.Row w2 (some d) n cc (eAll (dMod h w c lo hi ot on O Z B))) := V1.out.below b2
    have S2 : Hid (St W w2 _) := s2
    obtain ⟨c1, f1, z1, c2, f2, z2, -⟩ := s2.rules
    clear b2 s2 L1 V1 S1
    go_wp2_with fail
    refine (decode_any (some d) n cc _ _ V2.out (by have := hn'.out; have := hle.out; omega)).mono ?_
    rintro e w3 ⟨hd, b3⟩
    obtain ⟨oa', oc', rfl, LD, -⟩ := dec_back hd hln.out hG'.out rfl
    have s4 := ((S2.out.call b3).new (c := #[.int .i64 h, .int .i64 w, .int .i64 c, .int .i64 lo, .int .i64 hi, .slice oa' on oc', .int .i64 ot]) (t := 26)).new (c := #[.int .i64 0, .int .i64 0, .int .i64 0]) (t := 31)
    simp only [World.size_alloc] at s4
    have B4 := bt b3 (bt (bal w3 (.cells #[.int .i64 h, .int .i64 w, .int .i64 c, .int .i64 lo, .int .i64 hi, .slice oa' on oc', .int .i64 ot] 26)) (bal _ (.cells #[.int .i64 0, .int .i64 0, .int .i64 0] 31)))
    have L4 : Hid (LRow _ oa on oc O Z B) := L2.out.below B4
    have D4 : Hid (LRow _ oa' on oc' O Z B) := LD.below (bt (bal w3 (.cells #[.int .i64 h, .int .i64 w, .int .i64 c, .int .i64 lo, .int .i64 hi, .slice oa' on oc', .int .i64 ot] 26)) (bal _ (.cells #[.int .i64 0, .int .i64 0, .int .i64 0] 31)))
    have S4 : Hid (St W _ _) := s4
    have eq0 := eqF 0 0 0 0 0 0 true (by simp)
    clear c1 f1 z1 c2 f2 z2
    obtain ⟨-, -, -, -, -, -, -, -, -, c4, f4, z4, -⟩ := s4.rules
    clear hd b3 LD B4 s4 L2 V2 S2
    go_wp2_with fail
    refine (samem_any h w c lo hi ot oa oa' on oc oc' O Z B _ L4.out D4.out).mono ?_
    rintro e w5 ⟨rfl, b5⟩
    have hb : Hid (Below W.heap.size W w5) := (S4.out.call b5).below
    clear b5 c4 f4 z4
    go_wp2
    go_ret
    exact ⟨rfl, hb.out⟩
  · have hG' : Hid (gtR O h w c lo hi ot on = (x, t, L, wk)) := hG
    have hx' : Hid (x ≠ 0) := hx
    clear hG hL s0
    go_enter Try.func4, Try.ntmps4
    go_wp2_with fail
    refine (encode_bad h w c lo hi ot oa on oc O Z B _ L0.out x t L wk hG'.out hx'.out).mono ?_
    rintro e w1 ⟨rfl, b1⟩
    have s1 := (S0.out.call b1).new (c := #[.int .i64 x, .int .i64 t, .int .i64 0]) (t := 31)
    have S1 : Hid (St W _ _) := s1
    clear b1 s1
    go_wp2_with fail
    refine (fixed9_any _).mono ?_
    rintro e w2 ⟨rfl, b2⟩
    have s2 := S1.out.call b2
    have S2 : Hid (St W w2 _) := s2
    obtain ⟨c1, f1, z1, c2, f2, z2, -⟩ := s2.rules
    clear b2 s2
    have hx2 : (x == 0) = false := by simpa using hx'.out
    have hx3 : (x != 0) = true := by simpa using hx'.out
    go_wp2_with fail
    refine (fixed9_any _).mono ?_
    rintro e w3 ⟨rfl, b3⟩
    have hb : Hid (Below W.heap.size W w3) := (S2.out.call b3).below
    clear b3 c1 c2
    go_wp2
    go_ret
    exact ⟨rfl, hb.out⟩
theorem u8_wf {a : Int} (h : (Lit.int .u8 a).wf = true) : 0 ≤ a ∧ a < 256 := by
  simp [Lit.wf, IntKind.min, IntKind.max, IntKind.bits, IntKind.signed] at h
  omega
theorem irow_row {w : World} {a : Option Addr} {len cap : Nat} {zs : List Int} (h : IRow .u8 w a len cap zs) : Wr.Row w a len cap zs :=
  ⟨h.1, h.2.1, h.2.2.1, fun z hz => u8_wf (h.2.2.2.1 z hz), h.2.2.2.2.1, h.2.2.2.2.2⟩
theorem dec_cases {zs : List Int} {W w' : World} {r : Ending} (hd : Dec zs W w' r) (hb : Byt zs) :
    (∃ x t, x ≠ 0 ∧ r = .returned (.tuple #[.agg #[.int .i64 0, .int .i64 0, .int .i64 0, .int .i64 0, .int .i64 0, .slice none 0 0, .int .i64 0], .agg #[.int .i64 x, .int .i64 t, .int .i64 0]])) ∨
      ∃ (h w c lo hi ot : Int) (oa : Option Addr) (on oc : Nat) (O : Nat → Nat → Int) (Z B : Nat → List Int) (L : List (Int × Int × Int)) (wk : Int), zs = eAll (dMod h w c lo hi ot on O Z B) ∧ gtR O h w c lo hi ot on = (0, 0, L, wk) ∧ r = .returned (.tuple #[.agg #[.int .i64 h, .int .i64 w, .int .i64 c, .int .i64 lo, .int .i64 hi, .slice oa on oc, .int .i64 ot], .agg #[.int .i64 0, .int .i64 0, .int .i64 0]]) ∧ LRow w' oa on oc O Z B ∧ CRow w' W.heap.size (.slice oa on oc) on O Z B := by
  rcases hd with ⟨x, t, h1, h2⟩ | ⟨h, w, c, lo, hi, ot, oa, on, oc, O, Z, B, x, t, L, wk, h1, h2, -, ⟨hx, hr⟩ | ⟨rfl, hr, cr⟩⟩
  · exact .inl ⟨x, t, pall_ne h1, h2⟩
  · exact .inl ⟨x, t, hx, hr⟩
  · obtain ⟨-, rfl, -⟩ := gtR_st h2
    exact .inr ⟨h, w, c, lo, hi, ot, oa, on, oc, O, Z, B, L, wk, (unq_all hb h1).1, h2, hr, cr.l, cr⟩
theorem lrow_0 (w : World) (O : Nat → Nat → Int) (Z B : Nat → List Int) : LRow w none 0 0 O Z B := ⟨Nat.le_refl _, by unfold maxLen; omega, fun _ => rfl, fun x hx => by cases hx⟩
set_option maxHeartbeats 8000000 in
set_option maxRecDepth 100000 in
theorem packForms_walk (a : Option Addr) (len cap : Nat) (zs : List Int) (W : World) (hi0 : IRow .u8 W a len cap zs) (hr : len * 1 ≤ 140737488351232) :
    Calls Try.prog 5 #[.slice a len cap] W fun e w' => e = .returned (.bool true) ∧ Below W.heap.size W w' := by
  have HR : Hid (Wr.Row W a len cap zs) := irow_row hi0
  have hbz : Hid (Byt zs) := HR.out.2.2.2.1
  clear hi0
  go_enter Try.func5, Try.ntmps5
  go_wp2_with fail
  refine (decode_any a len cap zs _ HR.out (by omega)).mono ?_
  rintro e w1 ⟨hd, b1⟩
  rcases dec_cases hd hbz.out with ⟨x, t, hx, rfl⟩ | ⟨h, w, c, lo, hi, ot, oa, on, oc, O, Z, B, L, wk, hz, hg, rfl, LD, -⟩
  · have s1 := (((St.start W).call b1).new (c := #[.int .i64 0, .int .i64 0, .int .i64 0, .int .i64 0, .int .i64 0, .slice none 0 0, .int .i64 0]) (t := 26)).new (c := #[.int .i64 x, .int .i64 t, .int .i64 0]) (t := 31)
    simp only [World.size_alloc] at s1
    have S1 : Hid (St W _ _) := s1
    have hx' : Hid (x ≠ 0) := hx
    clear hd b1 s1 hx
    go_wp2_with fail
    refine (fixed9_any _).mono ?_
    rintro e w2 ⟨rfl, b2⟩
    have s2 := S1.out.call b2
    have S2 : Hid (St W w2 _) := s2
    obtain ⟨c1, f1, z1, c2, f2, z2, -⟩ := s2.rules
    have hx2 : (x == 0) = false := by simpa using hx'.out
    have hx3 : (x != 0) = true := by simpa using hx'.out
    clear b2 s2 S1
    go_wp2_with fail
    refine (fixed9_any _).mono ?_
    rintro e w3 ⟨rfl, b3⟩
    have s3 := S2.out.call b3
    have S3 : Hid (St W w3 _) := s3
    clear c1 f1 z1 c2 f2 z2
    obtain ⟨c1, f1, z1, c2, f2, z2, -⟩ := s3.rules
    clear b3 s3 S2
    go_wp2_with fail
    refine (samem_any 0 0 0 0 0 0 none none 0 0 0 (plO 0) plZ plB _ (lrow_0 _ _ _ _) (lrow_0 _ _ _ _)).mono ?_
    rintro e w4 ⟨rfl, b4⟩
    have hb : Hid (Below W.heap.size W w4) := (S3.out.call b4).below
    clear b4 c1 c2
    go_wp2
    go_ret
    exact ⟨rfl, hb.out⟩
  · have s1 := (((St.start W).call b1).new (c := #[.int .i64 h, .int .i64 w, .int .i64 c, .int .i64 lo, .int .i64 hi, .slice oa on oc, .int .i64 ot]) (t := 26)).new (c := #[.int .i64 0, .int .i64 0, .int .i64 0]) (t := 31)
    simp only [World.size_alloc] at s1
    have S1 : Hid (St W _ _) := s1
    have B1 := bt (bal w1 (.cells #[.int .i64 h, .int .i64 w, .int .i64 c, .int .i64 lo, .int .i64 hi, .slice oa on oc, .int .i64 ot] 26)) (bal _ (.cells #[.int .i64 0, .int .i64 0, .int .i64 0] 31))
    have L1 : Hid (LRow _ oa on oc O Z B) := LD.below B1
    have R1 : Hid (Wr.Row _ a len cap zs) := (HR.out.below b1).below B1
    have hz' : Hid (zs = eAll (dMod h w c lo hi ot on O Z B)) := hz
    have hg' : Hid (gtR O h w c lo hi ot on = (0, 0, L, wk)) := hg
    clear hd b1 s1 LD B1 hz hg
    go_wp2_with fail
    refine (fixed9_any _).mono ?_
    rintro e w2 ⟨rfl, b2⟩
    have s2 := S1.out.call b2
    have S2 : Hid (St W w2 _) := s2
    have L2 : Hid (LRow w2 oa on oc O Z B) := L1.out.below b2
    have R2 : Hid (Wr.Row w2 a len cap zs) := R1.out.below b2
    obtain ⟨c1, f1, z1, c2, f2, z2, -⟩ := s2.rules
    clear b2 s2 S1 L1 R1
    go_wp2_with fail
    refine (encode_ok h w c lo hi ot oa on oc O Z B _ L2.out 0 L wk hg'.out).mono ?_
    rintro e w3 ⟨v, rfl, own, nn, b3⟩
    obtain ⟨d, n, cc, rfl, R3, -⟩ := Own.rw own nn
    have s3 := (S2.out.call b3).new (c := #[.int .i64 0, .int .i64 0, .int .i64 0]) (t := 31)
    have S3 : Hid (St W _ _) := s3
    have V3 : Hid (Wr.Row _ (some d) n cc _) := R3.below (bal w3 (.cells #[.int .i64 0, .int .i64 0, .int .i64 0] 31))
    have A3 : Hid (Wr.Row _ a len cap zs) := (R2.out.below b3).below (bal w3 (.cells #[.int .i64 0, .int .i64 0, .int .i64 0] 31))
    have eq0 := eqF 0 0 0 0 0 0 true (by simp)
    clear c1 f1 z1 c2 f2 z2 own nn R3 b3 s3 S2 L2 R2
    go_wp2_with fail
    refine (sameb_any a (some d) len cap n cc zs _ _ A3.out V3.out).mono ?_
    rintro e w4 ⟨rfl, b4⟩
    rw [decide_eq_true hz'.out]
    have hb : Hid (Below W.heap.size W w4) := (S3.out.call b4).below
    clear b4
    go_wp2
    go_ret
    exact ⟨rfl, hb.out⟩
end Go.Proofs.Ythagdpiocmcbmaa
