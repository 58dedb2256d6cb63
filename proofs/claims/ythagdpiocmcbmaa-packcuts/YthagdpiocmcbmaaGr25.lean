/- The walks of PackBack and PackForms. The walk of PackCuts. The document's bytes of a model: numbers behind bytes; Check. -/
import Derived.Test.YthagdpiocmcbmaaGr18
import Derived.Test.YthagdpiocmcbmaaGr24
/- The walks of PackBack and PackForms. -/
namespace Go.Proofs.Ythagdpiocmcbmaa
open Wr
open Go.ChangeShapes Go.WideShapes Go.ChangeAt Go.RowKit
set_option linter.unusedVariables false
theorem eall_le {m : ModD} {n : Nat} (h : n = (eAll m).length) (hr : n ≤ 100000000) : n ≤ 140737488355328 := by omega
theorem eAll_le {h w c lo hi ot : Int} {on : Nat} {O : Nat → Nat → Int} {Z B : Nat → List Int} (hF : OFit on O Z B) (h64 : In64 [lo, hi]) : (eAll (dMod h w c lo hi ot on O Z B)).length ≤ 100000000 := by
  have a1 := eU_le [h, w, c]
  have a2 := eS_le [lo, hi] h64
  have a3 := eOps_le hF on (Nat.le_refl _)
  have a4 := put_le (n := on) (by have := hF.1; omega)
  have a5 := putR_ten (u64_lt ot)
  have a6 := hF.1
  unfold eAll eMod dMod
  rw [dOps_len]
  simp only [List.length_append, List.length_cons, List.length_nil, head4] at *
  omega
set_option maxHeartbeats 8000000 in
set_option maxRecDepth 100000 in
theorem packBack_walk (h w c lo hi : Int) (oa : Option Addr) (on oc : Nat) (ot : Int) (W : World) (_ : (Lit.int .i64 h).wf = true) (_ : (Lit.int .i64 w).wf = true) (_ : (Lit.int .i64 c).wf = true) (_ : (Lit.int .i64 lo).wf = true) (_ : (Lit.int .i64 hi).wf = true)
    (wo : ORow 22 (OpIn W) W oa on oc) (hr : on * 208 ≤ 140737488351232) (_ : (Lit.int .i64 ot).wf = true) :
    Calls Try.prog 4 #[.agg #[.int .i64 h, .int .i64 w, .int .i64 c, .int .i64 lo, .int .i64 hi, .slice oa on oc, .int .i64 ot]] W fun e w' => e = .returned (.bool true) ∧ Below W.heap.size W w' := by
  rename_i x1 x2 x3 x4 x5 x6
  clear x1 x2 x3 x4 x5 x6
  obtain ⟨O, Z, B, hL⟩ := lrow_of wo
  clear wo
  obtain ⟨x, t, L, wk, hG⟩ : ∃ x t L wk, gtR O h w c lo hi ot on = (x, t, L, wk) := ⟨_, _, _, _, rfl⟩
  have s0 := (St.start W).new (c := #[.int .i64 h, .int .i64 w, .int .i64 c, .int .i64 lo, .int .i64 hi, .slice oa on oc, .int .i64 ot]) (t := 26)
  have L0 : Hid (LRow _ oa on oc O Z B) := hL.below s0.below
  have S0 : Hid (St W _ _) := s0
  by_cases hx : x = 0
  · subst hx
    have hG' : Hid (gtR O h w c lo hi ot on = (0, t, L, wk)) := hG
    have hln : Hid (Lens on O Z B) := lens_of hL
    have hfit := mod_fits hG (lens_of hL)
    have hle : Hid ((eAll (dMod h w c lo hi ot on O Z B)).length ≤ 100000000) := eAll_le hfit.2.1 hfit.2.2
    clear hG hL s0 hfit
    go_enter Try.func4, Try.ntmps4
    go_wp2_with fail
    refine (encode_ok h w c lo hi ot oa on oc O Z B _ L0.out t L wk hG'.out).mono ?_
    rintro e w1 ⟨v, rfl, own, nn, b1⟩
    obtain ⟨d, n, cc, rfl, R1, hn⟩ := Own.rw own nn
    have hn' : Hid (n = (eAll (dMod h w c lo hi ot on O Z B)).length) := hn
    have s1 := (S0.out.call b1).new (c := #[.int .i64 0, .int .i64 0, .int .i64 0]) (t := 31)
    have B1 := bt b1 (bal w1 (.cells #[.int .i64 0, .int .i64 0, .int .i64 0] 31))
    have L1 : Hid (LRow _ oa on oc O Z B) := L0.out.below B1
    have V1 : Hid (Wr.Row _ (some d) n cc (eAll (dMod h w c lo hi ot on O Z B))) := R1.below (bal w1 (.cells #[.int .i64 0, .int .i64 0, .int .i64 0] 31))
    have S1 : Hid (St W _ _) := s1
    clear own nn R1 b1 s1 B1 L0 S0 hn
    go_wp2_with fail
    refine (fixed9_any _).mono ?_
    rintro e w2 ⟨rfl, b2⟩
    have s2 := S1.out.call b2
    have L2 : Hid (LRow w2 oa on oc O Z B) := L1.out.below b2
    have V2 : Hid (Wr.Row w2 (some d) n cc (eAll (dMod h w c lo hi ot on O Z B))) := V1.out.below b2
    have S2 : Hid (St W w2 _) := s2
    obtain ⟨c1, f1, z1, c2, f2, z2, -⟩ := s2.rules
    clear b2 s2 L1 V1 S1
    go_wp2_with fail
    refine (decode_any (some d) n cc _ _ V2.out (by have := hn'.out; have := hle.out; omega)).mono ?_
    rintro e w3 ⟨hd, b3⟩
    obtain ⟨oa', oc', rfl, LD, -⟩ := dec_back hd hln.out hG'.out rfl
    have s4 := ((S2.out.call b3).new (c := #[.int .i64 h, .int .i64 w, .int .i64 c, .int .i64 lo, .int .i64 hi, .slice oa' on oc', .int .i64 ot]) (t := 26)).new (c := #[.int .i64 0, .int .i64 0, .int .i64 0]) (t := 31)
    simp only [World.size_alloc] at s4
    have B4 := bt b3 (bt (bal w3 (.cells #[.int .i64 h, .int .i64 w, .int .i64 c, .int .i64 lo, .int .i64 hi, .slice oa' on oc', .int .i64 ot] 26)) (bal _ (.cells #[.int .i64 0, .int .i64 0, .int .i64 0] 31)))
    have L4 : Hid (LRow _ oa on oc O Z B) := L2.out.below B4
    have D4 : Hid (LRow _ oa' on oc' O Z B) := LD.below (bt (bal w3 (.cells #[.int .i64 h, .int .i64 w, .int .i64 c, .int .i64 lo, .int .i64 hi, .slice oa' on oc', .int .i64 ot] 26)) (bal _ (.cells #[.int .i64 0, .int .i64 0, .int .i64 0] 31)))
    have S4 : Hid (St W _ _) := s4
    have eq0 := eqF 0 0 0 0 0 0 true (by simp)
    clear c1 f1 z1 c2 f2 z2
    obtain ⟨-, -, -, -, -, -, -, -, -, c4, f4, z4, -⟩ := s4.rules
    clear hd b3 LD B4 s4 L2 V2 S2
    go_wp2_with fail
    refine (samem_any h w c lo hi ot oa oa' on oc oc' O Z B _ L4.out D4.out).mono ?_
    rintro e w5 ⟨rfl, b5⟩
    have hb : Hid (Below W.heap.size W w5) := (S4.out.call b5).below
    clear b5 c4 f4 z4
    go_wp2
    go_ret
    exact ⟨rfl, hb.out⟩
  · have hG' : Hid (gtR O h w c lo hi ot on = (x, t, L, wk)) := hG
    have hx' : Hid (x ≠ 0) := hx
    clear hG hL s0
    go_enter Try.func4, Try.ntmps4
    go_wp2_with fail
    refine (encode_bad h w c lo hi ot oa on oc O Z B _ L0.out x t L wk hG'.out hx'.out).mono ?_
    rintro e w1 ⟨rfl, b1⟩
    have s1 := (S0.out.call b1).new (c := #[.int .i64 x, .int .i64 t, .int .i64 0]) (t := 31)
    have S1 : Hid (St W _ _) := s1
    clear b1 s1
    go_wp2_with fail
    refine (fixed9_any _).mono ?_
    rintro e w2 ⟨rfl, b2⟩
    have s2 := S1.out.call b2
    have S2 : Hid (St W w2 _) := s2
    obtain ⟨c1, f1, z1, c2, f2, z2, -⟩ := s2.rules
    clear b2 s2
    have hx2 : (x == 0) = false := by simpa using hx'.out
    have hx3 : (x != 0) = true := by simpa using hx'.out
    go_wp2_with fail
    refine (fixed9_any _).mono ?_
    rintro e w3 ⟨rfl, b3⟩
    have hb : Hid (Below W.heap.size W w3) := (S2.out.call b3).below
    clear b3 c1 c2
    go_wp2
    go_ret
    exact ⟨rfl, hb.out⟩
theorem u8_wf {a : Int} (h : (Lit.int .u8 a).wf = true) : 0 ≤ a ∧ a < 256 := by
  simp [Lit.wf, IntKind.min, IntKind.max, IntKind.bits, IntKind.signed] at h
  omega
theorem irow_row {w : World} {a : Option Addr} {len cap : Nat} {zs : List Int} (h : IRow .u8 w a len cap zs) : Wr.Row w a len cap zs :=
  ⟨h.1, h.2.1, h.2.2.1, fun z hz => u8_wf (h.2.2.2.1 z hz), h.2.2.2.2.1, h.2.2.2.2.2⟩
theorem dec_cases {zs : List Int} {W w' : World} {r : Ending} (hd : Dec zs W w' r) (hb : Byt zs) :
    (∃ x t, x ≠ 0 ∧ r = .returned (.tuple #[.agg #[.int .i64 0, .int .i64 0, .int .i64 0, .int .i64 0, .int .i64 0, .slice none 0 0, .int .i64 0], .agg #[.int .i64 x, .int .i64 t, .int .i64 0]])) ∨
      ∃ (h w c lo hi ot : Int) (oa : Option Addr) (on oc : Nat) (O : Nat → Nat → Int) (Z B : Nat → List Int) (L : List (Int × Int × Int)) (wk : Int), zs = eAll (dMod h w c lo hi ot on O Z B) ∧ gtR O h w c lo hi ot on = (0, 0, L, wk) ∧ r = .returned (.tuple #[.agg #[.int .i64 h, .int .i64 w, .int .i64 c, .int .i64 lo, .int .i64 hi, .slice oa on oc, .int .i64 ot], .agg #[.int .i64 0, .int .i64 0, .int .i64 0]]) ∧ LRow w' oa on oc O Z B ∧ CRow w' W.heap.size (.slice oa on oc) on O Z B := by
  rcases hd with ⟨x, t, h1, h2⟩ | ⟨h, w, c, lo, hi, ot, oa, on, oc, O, Z, B, x, t, L, wk, h1, h2, -, ⟨hx, hr⟩ | ⟨rfl, hr, cr⟩⟩
  · exact .inl ⟨x, t, pall_ne h1, h2⟩
  · exact .inl ⟨x, t, hx, hr⟩
  · obtain ⟨-, rfl, -⟩ := gtR_st h2
    exact .inr ⟨h, w, c, lo, hi, ot, oa, on, oc, O, Z, B, L, wk, (unq_all hb h1).1, h2, hr, cr.l, cr⟩
theorem lrow_0 (w : World) (O : Nat → Nat → Int) (Z B : Nat → List Int) : LRow w none 0 0 O Z B := ⟨Nat.le_refl _, by unfold maxLen; omega, fun _ => rfl, fun x hx => by cases hx⟩
set_option maxHeartbeats 8000000 in
set_option maxRecDepth 100000 in
theorem packForms_walk (a : Option Addr) (len cap : Nat) (zs : List Int) (W : World) (hi0 : IRow .u8 W a len cap zs) (hr : len * 1 ≤ 140737488351232) :
    Calls Try.prog 5 #[.slice a len cap] W fun e w' => e = .returned (.bool true) ∧ Below W.heap.size W w' := by
  have HR : Hid (Wr.Row W a len cap zs) := irow_row hi0
  have hbz : Hid (Byt zs) := HR.out.2.2.2.1
  clear hi0
  go_enter Try.func5, Try.ntmps5
  go_wp2_with fail
  refine (decode_any a len cap zs _ HR.out (by omega)).mono ?_
  rintro e w1 ⟨hd, b1⟩
  rcases dec_cases hd hbz.out with ⟨x, t, hx, rfl⟩ | ⟨h, w, c, lo, hi, ot, oa, on, oc, O, Z, B, L, wk, hz, hg, rfl, LD, -⟩
  · have s1 := (((St.start W).call b1).new (c := #[.int .i64 0, .int .i64 0, .int .i64 0, .int .i64 0, .int .i64 0, .slice none 0 0, .int .i64 0]) (t := 26)).new (c := #[.int .i64 x, .int .i64 t, .int .i64 0]) (t := 31)
    simp only [World.size_alloc] at s1
    have S1 : Hid (St W _ _) := s1
    have hx' : Hid (x ≠ 0) := hx
    clear hd b1 s1 hx
    go_wp2_with fail
    refine (fixed9_any _).mono ?_
    rintro e w2 ⟨rfl, b2⟩
    have s2 := S1.out.call b2
    have S2 : Hid (St W w2 _) := s2
    obtain ⟨c1, f1, z1, c2, f2, z2, -⟩ := s2.rules
    have hx2 : (x == 0) = false := by simpa using hx'.out
    have hx3 : (x != 0) = true := by simpa using hx'.out
    clear b2 s2 S1
    go_wp2_with fail
    refine (fixed9_any _).mono ?_
    rintro e w3 ⟨rfl, b3⟩
    have s3 := S2.out.call b3
    have S3 : Hid (St W w3 _) := s3
    clear c1 f1 z1 c2 f2 z2
    obtain ⟨c1, f1, z1, c2, f2, z2, -⟩ := s3.rules
    clear b3 s3 S2
    go_wp2_with fail
    refine (samem_any 0 0 0 0 0 0 none none 0 0 0 (plO 0) plZ plB _ (lrow_0 _ _ _ _) (lrow_0 _ _ _ _)).mono ?_
    rintro e w4 ⟨rfl, b4⟩
    have hb : Hid (Below W.heap.size W w4) := (S3.out.call b4).below
    clear b4 c1 c2
    go_wp2
    go_ret
    exact ⟨rfl, hb.out⟩
  · have s1 := (((St.start W).call b1).new (c := #[.int .i64 h, .int .i64 w, .int .i64 c, .int .i64 lo, .int .i64 hi, .slice oa on oc, .int .i64 ot]) (t := 26)).new (c := #[.int .i64 0, .int .i64 0, .int .i64 0]) (t := 31)
    simp only [World.size_alloc] at s1
    have S1 : Hid (St W _ _) := s1
    have B1 := bt (bal w1 (.cells #[.int .i64 h, .int .i64 w, .int .i64 c, .int .i64 lo, .int .i64 hi, .slice oa on oc, .int .i64 ot] 26)) (bal _ (.cells #[.int .i64 0, .int .i64 0, .int .i64 0] 31))
    have L1 : Hid (LRow _ oa on oc O Z B) := LD.below B1
    have R1 : Hid (Wr.Row _ a len cap zs) := (HR.out.below b1).below B1
    have hz' : Hid (zs = eAll (dMod h w c lo hi ot on O Z B)) := hz
    have hg' : Hid (gtR O h w c lo hi ot on = (0, 0, L, wk)) := hg
    clear hd b1 s1 LD B1 hz hg
    go_wp2_with fail
    refine (fixed9_any _).mono ?_
    rintro e w2 ⟨rfl, b2⟩
    have s2 := S1.out.call b2
    have S2 : Hid (St W w2 _) := s2
    have L2 : Hid (LRow w2 oa on oc O Z B) := L1.out.below b2
    have R2 : Hid (Wr.Row w2 a len cap zs) := R1.out.below b2
    obtain ⟨c1, f1, z1, c2, f2, z2, -⟩ := s2.rules
    clear b2 s2 S1 L1 R1
    go_wp2_with fail
    refine (encode_ok h w c lo hi ot oa on oc O Z B _ L2.out 0 L wk hg'.out).mono ?_
    rintro e w3 ⟨v, rfl, own, nn, b3⟩
    obtain ⟨d, n, cc, rfl, R3, -⟩ := Own.rw own nn
    have s3 := (S2.out.call b3).new (c := #[.int .i64 0, .int .i64 0, .int .i64 0]) (t := 31)
    have S3 : Hid (St W _ _) := s3
    have V3 : Hid (Wr.Row _ (some d) n cc _) := R3.below (bal w3 (.cells #[.int .i64 0, .int .i64 0, .int .i64 0] 31))
    have A3 : Hid (Wr.Row _ a len cap zs) := (R2.out.below b3).below (bal w3 (.cells #[.int .i64 0, .int .i64 0, .int .i64 0] 31))
    have eq0 := eqF 0 0 0 0 0 0 true (by simp)
    clear c1 f1 z1 c2 f2 z2 own nn R3 b3 s3 S2 L2 R2
    go_wp2_with fail
    refine (sameb_any a (some d) len cap n cc zs _ _ A3.out V3.out).mono ?_
    rintro e w4 ⟨rfl, b4⟩
    rw [decide_eq_true hz'.out]
    have hb : Hid (Below W.heap.size W w4) := (S3.out.call b4).below
    clear b4
    go_wp2
    go_ret
    exact ⟨rfl, hb.out⟩
end Go.Proofs.Ythagdpiocmcbmaa

/- The walk of PackCuts. -/
namespace Go.Proofs.Ythagdpiocmcbmaa
open Wr
open Go.ChangeShapes Go.WideShapes Go.ChangeAt Go.RowKit
set_option linter.unusedVariables false
theorem dec_bad {zs : List Int} {W w' : World} {r : Ending} (hd : Dec zs W w' r) {x t : Int} (h : pAll zs = .inl (x, t)) : r = .returned (.tuple #[.agg #[.int .i64 0, .int .i64 0, .int .i64 0, .int .i64 0, .int .i64 0, .slice none 0 0, .int .i64 0], .agg #[.int .i64 x, .int .i64 t, .int .i64 0]]) := by
  rcases hd with ⟨x', t', h1, h2⟩ | ⟨h0, w0, c0, lo, hi, ot, oa, on, oc, O, Z, B, x', t', L, wk, h1, -⟩
  · rw [h] at h1; cases h1; exact h2
  · rw [h] at h1; cases h1
theorem cut_at (at1 : Int) (n : Nat) (h : 0 < n) : ∃ k : Nat, (IntKind.u64.wrap at1).tmod (n : Int) = (k : Int) ∧ k < n :=
  ⟨u64 at1 % n, by rw [u64_wrap]; rfl, Nat.mod_lt _ h⟩
theorem eAll_pos (m : ModD) : 0 < (eAll m).length := by unfold eAll; simp [head4]
set_option maxHeartbeats 8000000 in
set_option maxRecDepth 100000 in
theorem packCuts_walk (h w c lo hi : Int) (oa : Option Addr) (on oc : Nat) (ot : Int) (at1 more : Int) (W : World) (_ : (Lit.int .i64 h).wf = true) (_ : (Lit.int .i64 w).wf = true) (_ : (Lit.int .i64 c).wf = true) (_ : (Lit.int .i64 lo).wf = true) (_ : (Lit.int .i64 hi).wf = true)
    (wo : ORow 22 (OpIn W) W oa on oc) (hr : on * 208 ≤ 140737488351232) (_ : (Lit.int .i64 ot).wf = true) (_ : (Lit.int .i64 at1).wf = true) (wm : (Lit.int .u8 more).wf = true) :
    Calls Try.prog 6 #[.agg #[.int .i64 h, .int .i64 w, .int .i64 c, .int .i64 lo, .int .i64 hi, .slice oa on oc, .int .i64 ot], .int .i64 at1, .int .u8 more] W fun e w' => e = .returned (.bool true) ∧ Below W.heap.size W w' := by
  rename_i x1 x2 x3 x4 x5 x6 x7
  clear x1 x2 x3 x4 x5 x6 x7
  obtain ⟨O, Z, B, hL⟩ := lrow_of wo
  have hm := u8_wf wm
  clear wo wm
  obtain ⟨x, t, L, wk, hG⟩ : ∃ x t L wk, gtR O h w c lo hi ot on = (x, t, L, wk) := ⟨_, _, _, _, rfl⟩
  have s0 := (St.start W).new (c := #[.int .i64 h, .int .i64 w, .int .i64 c, .int .i64 lo, .int .i64 hi, .slice oa on oc, .int .i64 ot]) (t := 26)
  have L0 : Hid (LRow _ oa on oc O Z B) := hL.below s0.below
  have S0 : Hid (St W _ _) := s0
  by_cases hx : x = 0
  · subst hx
    have hG' : Hid (gtR O h w c lo hi ot on = (0, t, L, wk)) := hG
    have hfit := mod_fits hG (lens_of hL)
    have hF : Hid (ModF (dMod h w c lo hi ot on O Z B)) := hfit.1
    have hle : Hid ((eAll (dMod h w c lo hi ot on O Z B)).length ≤ 100000000) := eAll_le hfit.2.1 hfit.2.2
    clear hG hL s0 hfit
    go_enter Try.func6, Try.ntmps6
    go_wp2_with fail
    refine (encode_ok h w c lo hi ot oa on oc O Z B _ L0.out t L wk hG'.out).mono ?_
    rintro e w1 ⟨v, rfl, own, nn, b1⟩
    obtain ⟨d, n, cc, rfl, R1, hn⟩ := Own.rw own nn
    have hnp : 0 < n := by rw [hn]; exact eAll_pos _
    have hnl : n ≤ 100000000 := by rw [hn]; exact hle.out
    have hnc := R1.2.1
    have hnm := R1.2.2.1
    unfold maxLen at hnm
    have hn' : Hid (n = (eAll (dMod h w c lo hi ot on O Z B)).length) := hn
    have s1 := (S0.out.call b1).new (c := #[.int .i64 0, .int .i64 0, .int .i64 0]) (t := 31)
    have V1 : Hid (Wr.Row _ (some d) n cc (eAll (dMod h w c lo hi ot on O Z B))) := R1.below (bal w1 (.cells #[.int .i64 0, .int .i64 0, .int .i64 0] 31))
    have S1 : Hid (St W _ _) := s1
    clear own nn R1 b1 s1 L0 S0 hn
    go_wp2_with fail
    refine (fixed9_any _).mono ?_
    rintro e w2 ⟨rfl, b2⟩
    have s2 := S1.out.call b2
    have V2 : Hid (Wr.Row w2 (some d) n cc (eAll (dMod h w c lo hi ot on O Z B))) := V1.out.below b2
    have S2 : Hid (St W w2 _) := s2
    obtain ⟨c1, f1, z1, c2, f2, z2, -⟩ := s2.rules
    clear b2 s2 V1 S1
    obtain ⟨k, hk, hkn⟩ := cut_at at1 n hnp
    have hR3 : Hid (Wr.Row w2 (some d) k cc ((eAll (dMod h w c lo hi ot on O Z B)).take k)) := row_front V2.out (by omega)
    obtain ⟨t1, ht1⟩ := all_cut hF.out (n := k) (by rw [← hn'.out]; exact hkn)
    have hT : Hid (pAll ((eAll (dMod h w c lo hi ot on O Z B)).take k) = .inl (40, t1)) := ht1
    have hT2 : Hid (pAll (eAll (dMod h w c lo hi ot on O Z B) ++ [more]) = .inl (43, 0)) := all_more hF.out more
    clear ht1
    go_wp2_with fail
    refine (decode_any (some d) k cc _ _ hR3.out (by omega)).mono ?_
    rintro e w3 ⟨hd, b3⟩
    obtain rfl := dec_bad hd hT.out
    have s4 := ((S2.out.call b3).new (c := #[.int .i64 0, .int .i64 0, .int .i64 0, .int .i64 0, .int .i64 0, .slice none 0 0, .int .i64 0]) (t := 26)).new (c := #[.int .i64 40, .int .i64 t1, .int .i64 0]) (t := 31)
    simp only [World.size_alloc] at s4
    have B4 := bt b3 (bt (bal w3 (.cells #[.int .i64 0, .int .i64 0, .int .i64 0, .int .i64 0, .int .i64 0, .slice none 0 0, .int .i64 0] 26)) (bal _ (.cells #[.int .i64 40, .int .i64 t1, .int .i64 0] 31)))
    obtain ⟨w4, hw4⟩ : ∃ w4, w4 = ((w3.alloc (.cells #[.int .i64 0, .int .i64 0, .int .i64 0, .int .i64 0, .int .i64 0, .slice none 0 0, .int .i64 0] 26)).alloc (.cells #[.int .i64 40, .int .i64 t1, .int .i64 0] 31)) := ⟨_, rfl⟩
    rw [← hw4] at s4 B4
    have V4' : Hid (Wr.Row w4 (some d) n cc (eAll (dMod h w c lo hi ot on O Z B))) := V2.out.below B4
    have S4' : Hid (St W w4 _) := s4
    go_upto_region 6 with fail
    rw [← hw4]
    have own0 : Wr.Own (w4.alloc (.cells #[] 5)) w4.heap.size (.slice (some ⟨w4.heap.size, 0, none⟩) 0 0) [] := own_empty w4
    have bb0 : Hid (Below w4.heap.size w4 (w4.alloc (.cells #[] 5))) := bal _ _
    have V5 : Hid (Wr.Row (w4.alloc (.cells #[] 5)) (some d) n cc (eAll (dMod h w c lo hi ot on O Z B))) := V4'.out.below bb0.out
    have z4 : w3.heap.size + 1 < w4.heap.size := by rw [hw4]; simp
    clear hw4 s4 B4 b3 hd c1 f1 z1 c2 f2 z2 V2 S2 hR3 hT
    go_wp2_with (first
      | (at_builtin; refine Wr.wpList_app rfl (.tmp 52) (.tmp 53) rfl w4.heap.size (.slice (some ⟨w4.heap.size, 0, none⟩) 0 0) [] (eAll (dMod h w c lo hi ot on O Z B)) rfl own0 _ _ _ rfl V5.out (by have := hle.out; simp; omega) (by simp) ?_; intro v5 w5 own5 gr5 nn5; have bb5 := own0.bel bb0.out gr5 (by simp); have own6 := own5.alloc (.cells #[.int .u8 more] 5); have hnv : v5 ≠ .slice none 0 0 := nn5 (by simp); have bb6 := bb5.trans ((bal w5 (.cells #[.int .u8 more] 5)).mono bb5.size); obtain ⟨q1, q2, q3, rfl⟩ := own_ltr own5 hnv)
      | (at_builtin; refine Wr.wpList_app rfl (.tmp 54) (.tmp 56) rfl w4.heap.size _ _ [more] rfl own6 _ _ _ rfl (Wr.row_one w5 more hm) (by have := hle.out; simp; omega) bb6.size ?_; intro v7 w7 own7 gr7 nn7; have bb7 := own6.bel bb6 gr7 bb6.size; obtain ⟨d7, n7, c7, rfl, V7, hn7'⟩ := Own.rw own7 (nn7 hnv); have hn7 : Hid (n7 = _) := hn7'; clear hn7'))
    have hT3 : Hid (Wr.Row w7 (some d7) n7 c7 (eAll (dMod h w c lo hi ot on O Z B) ++ [more])) := by unfold Hid; simpa using V7
    have hn7' : n7 ≤ 140737488355328 := by rw [hn7.out]; have := hle.out; simp; omega
    have S7 : Hid (St W w7 _) := S4'.out.call bb7
    clear own7 gr7 nn7 V7 own5 gr5 nn5 own6 bb5 bb6 bb0 V5 hn7 own0
    refine (decode_any (some d7) n7 c7 _ _ hT3.out hn7').mono ?_
    rintro e w8 ⟨hd, b8⟩
    obtain rfl := dec_bad hd hT2.out
    have s9 := ((S7.out.call b8).new (c := #[.int .i64 0, .int .i64 0, .int .i64 0, .int .i64 0, .int .i64 0, .slice none 0 0, .int .i64 0]) (t := 26)).new (c := #[.int .i64 43, .int .i64 0, .int .i64 0]) (t := 31)
    simp only [World.size_alloc] at s9
    have S9 : Hid (St W _ _) := s9
    have eq43 := eqF 43 0 0 43 0 0 true (by simp)
    obtain ⟨-, -, -, -, -, -, c3, f3, z3, c4, f4, z4', -⟩ := s9.rules
    clear hd b8 s9 S7 bb7
    go_wp2_with fail
    refine (samem_any 0 0 0 0 0 0 none none 0 0 0 (plO 0) plZ plB _ (lrow_0 _ _ _ _) (lrow_0 _ _ _ _)).mono ?_
    rintro e w10 ⟨rfl, b10⟩
    have s10 := S9.out.call b10
    have S10 : Hid (St W w10 _) := s10
    clear c3 f3 z3 c4 f4 z4'
    obtain ⟨c1, f1, z1, c2, f2, z2, c3, f3, z3, c4, f4, z4', -⟩ := s10.rules
    clear b10 s10 S9
    go_wp2_with fail
    refine (samem_any 0 0 0 0 0 0 none none 0 0 0 (plO 0) plZ plB _ (lrow_0 _ _ _ _) (lrow_0 _ _ _ _)).mono ?_
    rintro e w11 ⟨rfl, b11⟩
    have hb : Hid (Below W.heap.size W w11) := (S10.out.call b11).below
    clear b11 c1 c2 c3 c4
    go_wp2
    go_ret
    exact ⟨rfl, hb.out⟩
  · have hG' : Hid (gtR O h w c lo hi ot on = (x, t, L, wk)) := hG
    have hx' : Hid (x ≠ 0) := hx
    clear hG hL s0
    go_enter Try.func6, Try.ntmps6
    go_wp2_with fail
    refine (encode_bad h w c lo hi ot oa on oc O Z B _ L0.out x t L wk hG'.out hx'.out).mono ?_
    rintro e w1 ⟨rfl, b1⟩
    have s1 := (S0.out.call b1).new (c := #[.int .i64 x, .int .i64 t, .int .i64 0]) (t := 31)
    have S1 : Hid (St W _ _) := s1
    clear b1 s1
    go_wp2_with fail
    refine (fixed9_any _).mono ?_
    rintro e w2 ⟨rfl, b2⟩
    have s2 := S1.out.call b2
    have S2 : Hid (St W w2 _) := s2
    obtain ⟨c1, f1, z1, c2, f2, z2, -⟩ := s2.rules
    clear b2 s2
    have hx2 : (x == 0) = false := by simpa using hx'.out
    have hx3 : (x != 0) = true := by simpa using hx'.out
    go_wp2_with fail
    refine (fixed9_any _).mono ?_
    rintro e w3 ⟨rfl, b3⟩
    have s3 := S2.out.call b3
    clear c1 f1 z1 c2 f2 z2
    obtain ⟨c1, f1, z1, c2, f2, z2, -⟩ := s3.rules
    have hb : Hid (Below W.heap.size W w3) := s3.below
    clear b3 s3
    go_wp2
    go_ret
    exact ⟨rfl, hb.out⟩
end Go.Proofs.Ythagdpiocmcbmaa

/- The document's bytes of a model: numbers behind bytes; Check. -/
namespace Go.Proofs.Ythagdpiocmcbmaa
open Wr
open Go.ChangeShapes Go.WideShapes Go.ChangeAt Go.RowKit
set_option linter.unusedVariables false
set_option maxHeartbeats 2000000 in
theorem rcheck_any (h w c lo hi ot : Int) (oa : Option Addr) (on oc : Nat) (O : Nat → Nat → Int) (Z B : Nat → List Int) (W : World) (hL : LRow W oa on oc O Z B) (hon : on ≤ 1000000000000) :
    Calls Try.prog 17 #[.agg #[.int .i64 h, .int .i64 w, .int .i64 c, .int .i64 lo, .int .i64 hi, .slice oa on oc, .int .i64 ot]] W fun e w' => e = .returned (.agg #[.int .i64 (gtR O h w c lo hi ot on).1, .int .i64 (gtR O h w c lo hi ot on).2.1, .int .i64 0]) ∧ Below W.heap.size W w' := by
  have hG : Hid (∀ W, LRow W oa on oc O Z B → _) := fun W hW => look_any h w c lo hi ot oa on oc O Z B W hW hon
  obtain ⟨Re, Ra, RL, Rw, hR⟩ : ∃ Re Ra RL Rw, gtR O h w c lo hi ot on = (Re, Ra, RL, Rw) := ⟨_, _, _, _, rfl⟩
  rw [hR] at hG ⊢
  simp only
  have hM2 : Hid (LRow W oa on oc O Z B) := hL
  clear hR hL
  go_enter Try.func17, Try.ntmps17
  go_wp2_with fail
  refine Calls.mono (hG.out _ (hM2.out.below (St.start W).new.new.below)) ?_
  rintro e w1 ⟨v, rfl, hS, hb⟩
  obtain ⟨va, vc, rfl⟩ := hS.slice
  have s1 := ((St.start W).new.new).call hb
  simp only [World.size_alloc] at s1
  obtain ⟨c1, f1, z1, c2, f2, z2, -⟩ := s1.rules
  have hs1 : Hid (Below W.heap.size W w1) := s1.below
  clear hb hS s1
  go_wp2
  exact bodyPost_ret (v := .agg #[.int .i64 Re, .int .i64 Ra, .int .i64 0]) (by simp [results, Try.results17, go_sem, *]) rfl ⟨rfl, bt (set3b hs1.out (by omega)) (bal _ _)⟩
/-- 'append' of bytes to a writer's. -/
theorem wpList_appW {w : World} {ops : Array Oper} {rest : List Oper} {o : Oper} {a : Act} {Q : Exit → Act → World → Prop} (hgd : o.guard = none) (s x : Operand)
    (ho : o.op = .call { callee := .builtin .append, args := #[s, x], argTypes := #[28, 28] })
    (base : Nat) (v : Value) (xs ys : List Int) (hs : a.eval s = v) (hown : Wo w base v xs) (ad : Addr) (m c : Nat) (hx : a.eval x = .slice (some ad) m c) (hy : Wr.Row w (some ad) m c ys) (hm0 : 0 < ys.length)
    (hlen : xs.length + ys.length ≤ 140737488355328) (hbase : base ≤ w.heap.size)
    (hK : ∀ v' w', Wr.Own w' base v' (xs ++ ys) → v' ≠ .slice none 0 0 → Wk0 base w w' → wpList Try.prog ops Q rest (a.put o.dst v') w') : wpList Try.prog ops Q (o :: rest) a w := by
  refine wpList_plain hgd fun K hK' => ?_
  have := step_appW (ops := ops) (o := o) (a := a) (w := w) (K := K) (Q := Q) (E := False) hgd s x ho base v xs ys hs hown ad m c hx hy hm0 hlen hbase (fun v' w' h1 h2 h3 => hK' _ _ (hK v' w' h1 h2 h3))
  rwa [if_pos (by simp [Region.wanted, hgd])] at this
theorem Wk0.refl (base : Nat) (w : World) : Wk0 base w w := ⟨Below.refl _ _, fun _ _ _ _ h => h⟩
theorem Wk0.trans {base : Nat} {a b c : World} (h : Wk0 base a b) (k : Wk0 base b c) : Wk0 base a c := ⟨h.1.trans k.1, fun i cs T h1 h2 => k.2 i cs T h1 (h.2 i cs T h1 h2)⟩
theorem Wk0.of {base : Nat} {w w' : World} (h : Below w.heap.size w w') (hb : base ≤ w.heap.size) : Wk0 base w w' := ⟨h.mono hb, fun k c T _ hk => (h.block k (lt_of_heap hk)).trans hk⟩
theorem Wk0.size {base : Nat} {w w' : World} (h : Wk0 base w w') : w.heap.size ≤ w'.heap.size := h.1.size
theorem own_pos {w : World} {base : Nat} {v : Value} {zs : List Int} (h : Wr.Own w base v zs) (hp : 0 < zs.length) : v ≠ .slice none 0 0 := by
  rcases h.shape with ⟨-, h0⟩ | ⟨g, cap, e, -⟩
  · rw [h0] at hp; simp at hp
  · rw [e]; simp
set_option maxHeartbeats 2000000 in
set_option maxRecDepth 100000 in
theorem us_any (base g n : Nat) (v0 : Value) (xs ys : List Int) (w : World) (h : Wo w base v0 xs) (hn : Nums w g ys) (hl : ys.length = n) (hb : base ≤ w.heap.size) (hs : xs.length + 10 * n ≤ 140737488355328) (hn2 : n ≤ 1000) (hy : True) :
    Calls Try.prog 28 #[v0, .slice (some ⟨g, 0, none⟩) n n] w fun e w' => ∃ v, e = .returned v ∧ Wo w' base v (xs ++ eU ys) ∧ Wk0 base w w' ∧ (0 < n → Wr.Own w' base v (xs ++ eU ys) ∧ v ≠ .slice none 0 0) := by
  have hl' : Hid (ys.length = n) := hl
  have hn' : Hid (Nums w g ys) := hn
  have h0 : Hid (Wo w base v0 (xs ++ eU (ys.take 0))) := by unfold Hid; simpa [eU] using h
  clear hl hn h
  go_enter Try.func28, Try.ntmps28
  go_wp2
  go_loopw [0, 9] (fun b i wr => ∃ k : Nat, k ≤ n ∧ i = .int .i64 k ∧ Wo wr base b (xs ++ eU (ys.take k)) ∧ Wk0 base w wr ∧ (0 < k → Wr.Own wr base b (xs ++ eU (ys.take k)) ∧ b ≠ .slice none 0 0)) (fun _ i _ => n - (intOf i).toNat)
  case atStart => exact ⟨0, Nat.zero_le _, rfl, h0.out, Wk0.refl _ _, fun h => by omega⟩
  case round =>
    obtain ⟨k, hk, rfl, hT, hK, hO⟩ := hrel
    clear h0
    have hK' : Hid (Wk0 base w wr) := hK
    obtain ⟨bd, bn, bc, rfl⟩ := hT.ltr
    have hT' : Hid (Wo wr base (.slice (some bd) bn bc) (xs ++ eU (ys.take k))) := hT
    by_cases hlt : k < n
    · obtain ⟨y, hky⟩ : ∃ y, ys[k]? = some y := ⟨_, List.getElem?_eq_getElem (by rw [hl'.out]; exact hlt)⟩
      have hcy := (show Nums wr g ys from hK.2 g _ _ (by decide) hn'.out).at hky
      have hlen : Hid ((xs ++ eU (ys.take k)).length ≤ xs.length + 10 * k) := by
        have := eU_le (ys.take k); simp only [Hid, List.length_append, List.length_take] at *; omega
      have hnext : Hid (xs ++ eU (ys.take k) ++ (putR (u64 y)) = xs ++ eU (ys.take (k + 1))) := by
        unfold Hid; rw [take_more hky, eU_app, List.append_assoc]; simp [eU]
      have hu := u64_lt y
      have hw := u64_wrap y
      have hpos : Hid (0 < ((putR (u64 y))).length) := putR_pos _
      have hput : Hid (((putR (u64 y))).length ≤ 10) := putR_ten (u64_lt y)
      have hbase : Hid (base ≤ wr.heap.size) := Nat.le_trans hb hK.size
      clear hK hky hO hT
      go_wp2_with fail
      refine (refU_is (u64 y) _ hu).mono ?_
      rintro e w1 ⟨v1, rfl, own1, b1⟩
      obtain ⟨d1, n1, p1, rfl, r1, hn1⟩ := Own.rw own1 (own_pos own1 hpos.out)
      have hT1 : Hid (Wo w1 base (.slice (some bd) bn bc) (xs ++ eU (ys.take k))) := hT'.out.below b1
      have hk1 : Hid (Wk0 base w w1) := hK'.out.trans (Wk0.of b1 hbase.out)
      have hr1 : Hid (Wr.Row w1 (some d1) n1 p1 (putR (u64 y))) := r1
      have hb1 : Hid (base ≤ w1.heap.size) := Nat.le_trans hbase.out b1.size
      clear own1 b1 r1 hn1 hT'
      go_wp2_with (at_builtin; refine wpList_appW rfl (.tmp 13) (.tmp 16) rfl base (.slice (some bd) bn bc) _ _ rfl hT1.out d1 _ _ rfl hr1.out hpos.out (by have := hlen.out; have := hput.out; omega) hb1.out ?_; intro v2 w2 own2 nn2 kw2)
      have hE : Hid (Wr.Own w2 base v2 (xs ++ eU (ys.take (k + 1))) ∧ v2 ≠ .slice none 0 0 ∧ Wk0 base w w2) := ⟨by rw [← hnext.out]; exact own2, nn2, hk1.out.trans kw2⟩
      clear own2 nn2 kw2
      go_wp2
      go_roundw
      case rel => exact ⟨k + 1, by omega, by go_num, .inl ⟨hE.out.1, hE.out.2.1⟩, hE.out.2.2, fun _ => ⟨hE.out.1, hE.out.2.1⟩⟩
      case measure => simp [intOf]; omega
    · have hE : Hid (Wo wr base (.slice (some bd) bn bc) (xs ++ eU ys) ∧ (0 < n → Wr.Own wr base (.slice (some bd) bn bc) (xs ++ eU ys) ∧ Value.slice (some bd) bn bc ≠ .slice none 0 0)) := by
        unfold Hid; rw [List.take_of_length_le (by rw [hl'.out]; omega)] at hT hO; exact ⟨hT, fun h => hO (by omega)⟩
      clear hT hK hO hT'
      go_wp2
      go_ret
      exact ⟨_, rfl, hE.out.1, hK'.out, hE.out.2⟩
set_option maxHeartbeats 2000000 in
set_option maxRecDepth 100000 in
theorem ss_any (base g n : Nat) (v0 : Value) (xs ys : List Int) (w : World) (h : Wo w base v0 xs) (hn : Nums w g ys) (hl : ys.length = n) (hb : base ≤ w.heap.size) (hs : xs.length + 10 * n ≤ 140737488355328) (hn2 : n ≤ 1000) (hy : In64 ys) :
    Calls Try.prog 29 #[v0, .slice (some ⟨g, 0, none⟩) n n] w fun e w' => ∃ v, e = .returned v ∧ Wo w' base v (xs ++ eS ys) ∧ Wk0 base w w' ∧ (0 < n → Wr.Own w' base v (xs ++ eS ys) ∧ v ≠ .slice none 0 0) := by
  have hl' : Hid (ys.length = n) := hl
  have hn' : Hid (Nums w g ys) := hn
  have h0 : Hid (Wo w base v0 (xs ++ eS (ys.take 0))) := by unfold Hid; simpa [eS] using h
  clear hl hn h
  go_enter Try.func29, Try.ntmps29
  go_wp2
  go_loopw [0, 9] (fun b i wr => ∃ k : Nat, k ≤ n ∧ i = .int .i64 k ∧ Wo wr base b (xs ++ eS (ys.take k)) ∧ Wk0 base w wr ∧ (0 < k → Wr.Own wr base b (xs ++ eS (ys.take k)) ∧ b ≠ .slice none 0 0)) (fun _ i _ => n - (intOf i).toNat)
  case atStart => exact ⟨0, Nat.zero_le _, rfl, h0.out, Wk0.refl _ _, fun h => by omega⟩
  case round =>
    obtain ⟨k, hk, rfl, hT, hK, hO⟩ := hrel
    clear h0
    have hK' : Hid (Wk0 base w wr) := hK
    obtain ⟨bd, bn, bc, rfl⟩ := hT.ltr
    have hT' : Hid (Wo wr base (.slice (some bd) bn bc) (xs ++ eS (ys.take k))) := hT
    by_cases hlt : k < n
    · obtain ⟨y, hky⟩ : ∃ y, ys[k]? = some y := ⟨_, List.getElem?_eq_getElem (by rw [hl'.out]; exact hlt)⟩
      have hcy := (show Nums wr g ys from hK.2 g _ _ (by decide) hn'.out).at hky
      have hlen : Hid ((xs ++ eS (ys.take k)).length ≤ xs.length + 10 * k) := by
        have := eS_le (ys.take k) (fun x hx => hy x (List.mem_of_mem_take hx)); simp only [Hid, List.length_append, List.length_take] at *; omega
      have hnext : Hid (xs ++ eS (ys.take k) ++ (putR (foldR y)) = xs ++ eS (ys.take (k + 1))) := by
        unfold Hid; rw [take_more hky, eS_app, List.append_assoc]; simp [eS]
      have hy64 := hy y (List.mem_of_getElem? hky)
      have hpos : Hid (0 < ((putR (foldR y))).length) := putR_pos _
      have hput : Hid (((putR (foldR y))).length ≤ 10) := putR_ten (foldR_lt hy64.1 hy64.2)
      have hbase : Hid (base ≤ wr.heap.size) := Nat.le_trans hb hK.size
      clear hK hky hO hT
      go_wp2_with fail
      refine (refS_is y _ hy64.1 hy64.2).mono ?_
      rintro e w1 ⟨v1, rfl, own1, b1⟩
      obtain ⟨d1, n1, p1, rfl, r1, hn1⟩ := Own.rw own1 (own_pos own1 hpos.out)
      have hT1 : Hid (Wo w1 base (.slice (some bd) bn bc) (xs ++ eS (ys.take k))) := hT'.out.below b1
      have hk1 : Hid (Wk0 base w w1) := hK'.out.trans (Wk0.of b1 hbase.out)
      have hr1 : Hid (Wr.Row w1 (some d1) n1 p1 (putR (foldR y))) := r1
      have hb1 : Hid (base ≤ w1.heap.size) := Nat.le_trans hbase.out b1.size
      clear own1 b1 r1 hn1 hT'
      go_wp2_with (at_builtin; refine wpList_appW rfl (.tmp 13) (.tmp 15) rfl base (.slice (some bd) bn bc) _ _ rfl hT1.out d1 _ _ rfl hr1.out hpos.out (by have := hlen.out; have := hput.out; omega) hb1.out ?_; intro v2 w2 own2 nn2 kw2)
      have hE : Hid (Wr.Own w2 base v2 (xs ++ eS (ys.take (k + 1))) ∧ v2 ≠ .slice none 0 0 ∧ Wk0 base w w2) := ⟨by rw [← hnext.out]; exact own2, nn2, hk1.out.trans kw2⟩
      clear own2 nn2 kw2
      go_wp2
      go_roundw
      case rel => exact ⟨k + 1, by omega, by go_num, .inl ⟨hE.out.1, hE.out.2.1⟩, hE.out.2.2, fun _ => ⟨hE.out.1, hE.out.2.1⟩⟩
      case measure => simp [intOf]; omega
    · have hE : Hid (Wo wr base (.slice (some bd) bn bc) (xs ++ eS ys) ∧ (0 < n → Wr.Own wr base (.slice (some bd) bn bc) (xs ++ eS ys) ∧ Value.slice (some bd) bn bc ≠ .slice none 0 0)) := by
        unfold Hid; rw [List.take_of_length_le (by rw [hl'.out]; omega)] at hT hO; exact ⟨hT, fun h => hO (by omega)⟩
      clear hT hK hO hT'
      go_wp2
      go_ret
      exact ⟨_, rfl, hE.out.1, hK'.out, hE.out.2⟩
end Go.Proofs.Ythagdpiocmcbmaa
