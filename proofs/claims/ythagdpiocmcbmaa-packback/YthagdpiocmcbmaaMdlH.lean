/- Check, Shapes and Work of package model: what each answers. -/
import Derived.Test.YthagdpiocmcbmaaMdlG
namespace Go.Proofs.Ythagdpiocmcbmaa
open Go.ChangeShapes Go.WideShapes Go.ChangeAt Go.RowKit
set_option linter.unusedVariables false
theorem Shp.slice {w : World} {base : Nat} {v : Value} {L : List (Int × Int × Int)} (h : Shp w base v L) : ∃ a cap, v = .slice a L.length cap := by
  rcases h with ⟨rfl, rfl⟩ | ⟨g, cap, cur, rfl, -⟩
  · exact ⟨_, _, rfl⟩
  · exact ⟨_, _, rfl⟩
theorem Shp.below {w w' : World} {base : Nat} {v : Value} {L : List (Int × Int × Int)} (h : Shp w base v L) (q : Below w.heap.size w w') : Shp w' base v L := by
  rcases h with h | ⟨g, cap, cur, h1, h2, h3, h4⟩
  · exact .inl h
  · exact .inr ⟨g, cap, cur, h1, h2, (q.block _ (lt_of_heap h3)).trans h3, h4⟩
theorem Shp.base {w : World} {b c : Nat} {v : Value} {L : List (Int × Int × Int)} (h : Shp w b v L) (q : c ≤ b) : Shp w c v L := by
  rcases h with h | ⟨g, cap, cur, h1, h2, h3⟩
  · exact .inl h
  · exact .inr ⟨g, cap, cur, h1, by omega, h3⟩
theorem Shp.set3 {w : World} {N : Nat} {v a b c : Value} {L : List (Int × Int × Int)} (h : Shp w (N + 1) v L) : Shp (((w.setCell ⟨N, 0, none⟩ a).setCell ⟨N, 1, none⟩ b).setCell ⟨N, 2, none⟩ c) N v L := by
  rcases h with h | ⟨g, cap, cur, h1, h2, h3, h4⟩
  · exact .inl h
  · refine .inr ⟨g, cap, cur, h1, by omega, ?_, h4⟩
    rw [Below.heap_setCell _ _ _ _ (show g ≠ N by omega), Below.heap_setCell _ _ _ _ (show g ≠ N by omega), Below.heap_setCell _ _ _ _ (show g ≠ N by omega)]
    exact h3
theorem check_any (h w c lo hi ot : Int) (oa : Option Addr) (on oc : Nat) (O : Nat → Nat → Int) (W : World) (hM : MRow W oa on oc O) :
    Calls Try.prog 15 #[.agg #[.int .i64 h, .int .i64 w, .int .i64 c, .int .i64 lo, .int .i64 hi, .slice oa on oc, .int .i64 ot]] W fun e w' => e = .returned (.agg #[.int .i64 (gtR O h w c lo hi ot on).1, .int .i64 (gtR O h w c lo hi ot on).2.1, .int .i64 0]) ∧ Below W.heap.size W w' := by
  have hG : Hid (∀ W, MRow W oa on oc O → _) := fun W hW => gothrough_any h w c lo hi ot oa on oc O W hW
  obtain ⟨Re, Ra, RL, Rw, hR⟩ : ∃ Re Ra RL Rw, gtR O h w c lo hi ot on = (Re, Ra, RL, Rw) := ⟨_, _, _, _, rfl⟩
  rw [hR] at hG ⊢
  simp only
  have hM2 : Hid (MRow W oa on oc O) := hM
  clear hR hM
  go_enter Try.func15, Try.ntmps15
  go_wp2_with fail
  refine Calls.mono (hG.out _ (hM2.out.below (St.start W).new.new.below)) ?_
  rintro e w1 ⟨v, rfl, hS, hb⟩
  obtain ⟨va, vc, rfl⟩ := hS.slice
  have s1 := ((St.start W).new.new).call hb
  simp only [World.size_alloc] at s1
  obtain ⟨c1, f1, z1, c2, f2, z2, -⟩ := s1.rules
  clear hb hS
  go_wp2
  exact bodyPost_ret (v := .agg #[.int .i64 Re, .int .i64 Ra, .int .i64 0]) (by simp [results, Try.results15, go_sem, *]) rfl ⟨rfl, al2b (set3b s1.below (by omega)) _ _⟩
end Go.Proofs.Ythagdpiocmcbmaa
