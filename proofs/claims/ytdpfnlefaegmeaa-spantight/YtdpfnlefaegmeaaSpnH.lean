/- The fixed answers of the statements of layer 3. -/
import Derived.Test.YtdpfnlefaegmeaaSpnB
import Derived.Test.YtdpfnlefaegmeaaSpnD
namespace Go.Proofs.Ytdpfnlefaegmeaa
open Go.ChangeShapes Go.WideShapes Go.ChangeAt Go.RowKit
theorem fixed3_any (w : World) :
    Calls Try.prog 10 #[] w fun e w' => e = .returned (.bool true) ∧ Below w.heap.size w w' := by
  have A : Hid (suR 1 2 10 20 = (-19, -8, 0)) := by unfold Hid; decide
  have B : Hid (meR 1 5 4 9 = (4, 5, true)) := by unfold Hid; decide
  have C : Hid (mkR 3 2 = (0, 0, 30)) := by unfold Hid; decide
  have D : Hid (hasB 4 5 4 = true) := by unfold Hid; decide
  go_enter Try.func10, Try.ntmps10
  go_wp2_with fail
  refine (ssub_any _ _ _ _ _ (by unfold I64; omega) (by unfold I64; omega) (by unfold I64; omega) (by unfold I64; omega)).mono ?_
  rintro e w1 ⟨rfl, hb'⟩
  have s1 := (St.start w).call hb'
  clear hb'
  try simp only [World.size_alloc, World.size_setCell] at s1
  rw [A.out]
  go_wp2_with fail
  refine (smeet_any _ _ _ _ _).mono ?_
  rintro e w2 ⟨rfl, hb'⟩
  have s2 := s1.new.call hb'
  clear hb'
  try simp only [World.size_alloc, World.size_setCell] at s2
  obtain ⟨c1, f1, zw2_1, -⟩ := s2.rules
  rw [B.out]
  go_wp2_with fail
  refine (smake_any _ _ _).mono ?_
  rintro e w3 ⟨rfl, hb'⟩
  have s3 := s2.new.call hb'
  clear hb' c1 f1
  try simp only [World.size_alloc, World.size_setCell] at s3
  obtain ⟨c1, f1, zw3_1, c2, f2, zw3_2, -⟩ := s3.rules
  rw [C.out]
  go_wp2_with fail
  refine (shas_any _ _ _ _).mono ?_
  rintro e w4 ⟨rfl, hb'⟩
  have s4 := (s3.skip _).call hb'
  clear hb' c1 f1 c2 f2
  try simp only [World.size_alloc, World.size_setCell] at s4
  rw [D.out]
  go_wp2
  go_ret
  exact ⟨rfl, s4.below⟩
end Go.Proofs.Ytdpfnlefaegmeaa
