/- fixed of law09. -/
import Derived.Test.YthagdpiocmcbmaaPckL
namespace Go.Proofs.Ythagdpiocmcbmaa
open Wr
open Go.ChangeShapes Go.WideShapes Go.ChangeAt Go.RowKit
set_option linter.unusedVariables false
theorem Own.rw {w : World} {base : Nat} {v : Value} {zs : List Int} (h : Wr.Own w base v zs) (hv : v ≠ .slice none 0 0) : ∃ d n c, v = .slice (some d) n c ∧ Wr.Row w (some d) n c zs ∧ n = zs.length := by
  obtain ⟨d, c, e, r⟩ := own_get h hv
  exact ⟨d, _, c, e, r, rfl⟩
set_option maxHeartbeats 4000000 in
set_option maxRecDepth 100000 in
theorem fixed9_any (W : World) : Calls Try.prog 11 #[] W fun e w' => e = .returned (.bool true) ∧ Below W.heap.size W w' := by
  have eq0 := eqF 0 0 0 0 0 0 true (by simp)
  go_enter Try.func11, Try.ntmps11
  go_wp2_with fail
  refine (plain9_any _).mono ?_
  rintro e w1 ⟨g, b, rfl, hL, hR, b1⟩
  have s1 := (St.start W).call b1
  have s2 := s1.new (c := #[.int .i64 1, .int .i64 1, .int .i64 2, .int .i64 (-128), .int .i64 127, .slice (some ⟨g, 0, none⟩) 1 1, .int .i64 1]) (t := 26)
  have L2 : Hid (LRow _ (some ⟨g, 0, none⟩) 1 1 (plO 0) plZ plB) := hL.below (bal w1 (.cells #[.int .i64 1, .int .i64 1, .int .i64 2, .int .i64 (-128), .int .i64 127, .slice (some ⟨g, 0, none⟩) 1 1, .int .i64 1] 26))
  have R2 : Hid (Wr.Row _ (some ⟨b, 0, none⟩) 40 40 bytes40) := hR.below (bal w1 (.cells #[.int .i64 1, .int .i64 1, .int .i64 2, .int .i64 (-128), .int .i64 127, .slice (some ⟨g, 0, none⟩) 1 1, .int .i64 1] 26))
  have S2 : Hid (St W _ _) := s2
  clear hL hR b1 s1 s2
  go_wp2_with fail
  refine (encode_ok 1 1 2 (-128) 127 1 (some ⟨g, 0, none⟩) 1 1 (plO 0) plZ plB _ L2.out 0 _ _ pl_0).mono ?_
  rintro e w3 ⟨v, rfl, own, nn, b3⟩
  rw [show dMod 1 1 2 (-128) 127 1 1 (plO 0) plZ plB = plM from rfl, pl_bytes] at own
  obtain ⟨d, n, c, rfl, R3, hn⟩ := Own.rw own nn
  have hn40 : n = 40 := hn
  clear hn
  subst hn40
  have s3 := S2.out.call b3
  have s4 := s3.new (c := #[.int .i64 0, .int .i64 0, .int .i64 0]) (t := 31)
  have B4 := bt b3 (bal w3 (.cells #[.int .i64 0, .int .i64 0, .int .i64 0] 31))
  have L4 : Hid (LRow _ (some ⟨g, 0, none⟩) 1 1 (plO 0) plZ plB) := L2.out.below B4
  have R4 : Hid (Wr.Row _ (some ⟨b, 0, none⟩) 40 40 bytes40) := R2.out.below B4
  have V4 : Hid (Wr.Row _ (some d) 40 c bytes40) := R3.below (bal w3 (.cells #[.int .i64 0, .int .i64 0, .int .i64 0] 31))
  have S4 : Hid (St W _ _) := s4
  clear own nn b3 R3 s3 s4 B4 L2 R2 S2
  go_wp2_with fail
  refine (decode_any (some ⟨b, 0, none⟩) 40 40 bytes40 _ R4.out (by omega)).mono ?_
  rintro e w5 ⟨hd, b5⟩
  obtain ⟨oa, oc, rfl, LD, -⟩ := dec_back hd pl_lens pl_0 pl_bytes.symm
  have s6 := ((S4.out.call b5).new (c := #[.int .i64 1, .int .i64 1, .int .i64 2, .int .i64 (-128), .int .i64 127, .slice oa 1 oc, .int .i64 1]) (t := 26)).new (c := #[.int .i64 0, .int .i64 0, .int .i64 0]) (t := 31)
  simp only [World.size_alloc] at s6
  have B6 := bt b5 (bt (bal w5 (.cells #[.int .i64 1, .int .i64 1, .int .i64 2, .int .i64 (-128), .int .i64 127, .slice oa 1 oc, .int .i64 1] 26)) (bal _ (.cells #[.int .i64 0, .int .i64 0, .int .i64 0] 31)))
  have L6 : Hid (LRow _ (some ⟨g, 0, none⟩) 1 1 (plO 0) plZ plB) := L4.out.below B6
  have D6 : Hid (LRow _ oa 1 oc (plO 0) plZ plB) := LD.below (bt (bal w5 (.cells #[.int .i64 1, .int .i64 1, .int .i64 2, .int .i64 (-128), .int .i64 127, .slice oa 1 oc, .int .i64 1] 26)) (bal _ (.cells #[.int .i64 0, .int .i64 0, .int .i64 0] 31)))
  have R6 : Hid (Wr.Row _ (some ⟨b, 0, none⟩) 40 40 bytes40) := R4.out.below B6
  have V6 : Hid (Wr.Row _ (some d) 40 c bytes40) := V4.out.below B6
  have S6 : Hid (St W _ _) := s6
  obtain ⟨-, -, -, -, -, -, c3, f3, z3, c4, f4, z4, -⟩ := s6.rules
  clear hd b5 LD B6 s6 L4 R4 V4 S4
  go_wp2_with fail
  refine (sameb_any (some d) (some ⟨b, 0, none⟩) 40 c 40 40 bytes40 bytes40 _ V6.out R6.out).mono ?_
  rintro e w7 ⟨rfl, b7⟩
  rw [show decide (bytes40 = bytes40) = true from decide_eq_true rfl]
  have s7 := S6.out.call b7
  have L7 : Hid (LRow w7 (some ⟨g, 0, none⟩) 1 1 (plO 0) plZ plB) := L6.out.below b7
  have D7 : Hid (LRow w7 oa 1 oc (plO 0) plZ plB) := D6.out.below b7
  have S7 : Hid (St W w7 _) := s7
  clear c3 f3 z3 c4 f4 z4
  obtain ⟨c1, f1, z1, c2, f2, z2, c3, f3, z3, c4, f4, z4, -⟩ := s7.rules
  clear b7 s7 L6 D6 R6 V6 S6
  go_wp2_with fail
  refine (samem_any 1 1 2 (-128) 127 1 (some ⟨g, 0, none⟩) oa 1 1 oc (plO 0) plZ plB _ L7.out D7.out).mono ?_
  rintro e w8 ⟨rfl, b8⟩
  have hb : Hid (Below W.heap.size W w8) := (S7.out.call b8).below
  clear b8 c1 c2 c3 c4
  go_wp2
  go_ret
  exact ⟨rfl, hb.out⟩
end Go.Proofs.Ythagdpiocmcbmaa
