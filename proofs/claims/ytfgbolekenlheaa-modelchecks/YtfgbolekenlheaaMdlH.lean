/- Check, Shapes and Work of package model: what each answers. -/
import Derived.Test.YtfgbolekenlheaaMdlG
namespace Go.Proofs.Ytfgbolekenlheaa
open Go.ChangeShapes Go.WideShapes Go.ChangeAt Go.RowKit
set_option linter.unusedVariables false
theorem Shp.slice {w : World} {base : Nat} {v : Value} {L : List (Int × Int × Int)} (h : Shp w base v L) : ∃ a cap, v = .slice a L.length cap := by
  rcases h with ⟨rfl, rfl⟩ | ⟨g, cap, cur, rfl, -⟩
  · exact ⟨_, _, rfl⟩
  · exact ⟨_, _, rfl⟩
theorem Shp.below {w w' : World} {base : Nat} {v : Value} {L : List (Int × Int × Int)} (h : Shp w base v L) (q : Below w.heap.size w w') : Shp w' base v L := by
  rcases h with h | ⟨g, cap, cur, h1, h2, h3, h4⟩
  · exact .inl h
  · exact .inr ⟨g, cap, cur, h1, h2, (q.block _ (lt_of_heap h3)).trans h3, h4⟩
theorem Shp.base {w : World} {b c : Nat} {v : Value} {L : List (Int × Int × Int)} (h : Shp w b v L) (q : c ≤ b) : Shp w c v L := by
  rcases h with h | ⟨g, cap, cur, h1, h2, h3⟩
  · exact .inl h
  · exact .inr ⟨g, cap, cur, h1, by omega, h3⟩
theorem Shp.set3 {w : World} {N : Nat} {v a b c : Value} {L : List (Int × Int × Int)} (h : Shp w (N + 1) v L) : Shp (((w.setCell ⟨N, 0, none⟩ a).setCell ⟨N, 1, none⟩ b).setCell ⟨N, 2, none⟩ c) N v L := by
  rcases h with h | ⟨g, cap, cur, h1, h2, h3, h4⟩
  · exact .inl h
  · refine .inr ⟨g, cap, cur, h1, by omega, ?_, h4⟩
    rw [Below.heap_setCell _ _ _ _ (show g ≠ N by omega), Below.heap_setCell _ _ _ _ (show g ≠ N by omega), Below.heap_setCell _ _ _ _ (show g ≠ N by omega)]
    exact h3
theorem check_any (h w c lo hi ot : Int) (oa : Option Addr) (on oc : Nat) (O : Nat → Nat → Int) (W : World) (hM : MRow W oa on oc O) :
    Calls Try.prog 12 #[.agg #[.int .i64 h, .int .i64 w, .int .i64 c, .int .i64 lo, .int .i64 hi, .slice oa on oc, .int .i64 ot]] W fun e w' => e = .returned (.agg #[.int .i64 (gtR O h w c lo hi ot on).1, .int .i64 (gtR O h w c lo hi ot on).2.1, .int .i64 0]) ∧ Below W.heap.size W w' := by
  have hG : Hid (∀ W, MRow W oa on oc O → _) := fun W hW => gothrough_any h w c lo hi ot oa on oc O W hW
  obtain ⟨Re, Ra, RL, Rw, hR⟩ : ∃ Re Ra RL Rw, gtR O h w c lo hi ot on = (Re, Ra, RL, Rw) := ⟨_, _, _, _, rfl⟩
  rw [hR] at hG ⊢
  simp only
  have hM2 : Hid (MRow W oa on oc O) := hM
  clear hR hM
  go_enter Try.func12, Try.ntmps12
  go_wp2_with fail
  refine Calls.mono (hG.out _ (hM2.out.below (St.start W).new.new.below)) ?_
  rintro e w1 ⟨v, rfl, hS, hb⟩
  obtain ⟨va, vc, rfl⟩ := hS.slice
  have s1 := ((St.start W).new.new).call hb
  simp only [World.size_alloc] at s1
  obtain ⟨c1, f1, z1, c2, f2, z2, -⟩ := s1.rules
  clear hb hS
  go_wp2
  exact bodyPost_ret (v := .agg #[.int .i64 Re, .int .i64 Ra, .int .i64 0]) (by simp [results, Try.results12, go_sem, *]) rfl ⟨rfl, al2b (set3b s1.below (by omega)) _ _⟩
set_option maxHeartbeats 1000000 in
theorem shapes_any (h w c lo hi ot : Int) (oa : Option Addr) (on oc : Nat) (O : Nat → Nat → Int) (W : World) (hM : MRow W oa on oc O) :
    Calls Try.prog 9 #[.agg #[.int .i64 h, .int .i64 w, .int .i64 c, .int .i64 lo, .int .i64 hi, .slice oa on oc, .int .i64 ot]] W fun e w' => ∃ v, e = .returned (.tuple #[v, .agg #[.int .i64 (gtR O h w c lo hi ot on).1, .int .i64 (gtR O h w c lo hi ot on).2.1, .int .i64 0]]) ∧ Shp w' W.heap.size v (gtR O h w c lo hi ot on).2.2.1 ∧ Below W.heap.size W w' := by
  have hG : Hid (∀ W, MRow W oa on oc O → _) := fun W hW => gothrough_any h w c lo hi ot oa on oc O W hW
  obtain ⟨Re, Ra, RL, Rw, hR⟩ : ∃ Re Ra RL Rw, gtR O h w c lo hi ot on = (Re, Ra, RL, Rw) := ⟨_, _, _, _, rfl⟩
  rw [hR] at hG ⊢
  simp only
  have hM2 : Hid (MRow W oa on oc O) := hM
  clear hR hM
  go_enter Try.func9, Try.ntmps9
  go_wp2_with fail
  refine Calls.mono (hG.out _ (hM2.out.below (St.start W).new.new.below)) ?_
  rintro e w1 ⟨v, rfl, hS, hb⟩
  obtain ⟨va, vc, rfl⟩ := hS.slice
  have s1 := ((St.start W).new.new).call hb
  simp only [World.size_alloc] at s1
  obtain ⟨c1, f1, z1, c2, f2, z2, -⟩ := s1.rules
  have hS2 : Hid (Shp w1 W.heap.size (.slice va RL.length vc) RL) := hS.base (by simp; omega)
  have hs1 : Hid (Below W.heap.size W w1) := s1.below
  have hlt : Hid (∀ g, W.heap.size + 1 + 1 ≤ g → g ≠ W.heap.size + 1) := fun g hg => by omega
  have hS3 : Hid (Shp w1 (W.heap.size + 1 + 1) (.slice va RL.length vc) RL) := by unfold Hid; simpa using hS
  clear hb hS s1
  go_wp2
  go_region_law (fail)
  all_goals
    go_wp2
    exact bodyPost_ret (v := .tuple #[.slice va RL.length vc, .agg #[.int .i64 Re, .int .i64 Ra, .int .i64 0]]) (by simp [results, Try.results9, go_sem, *]) rfl ⟨_, rfl, (by first | exact ((hS3.out.set3).below (bt (bal _ _) (bal _ _))).base (by omega) | exact ((hS3.out.set3).below (bt (bt (bal _ _) (bal _ _)) (Below.refl _ _).drew)).base (by omega)), (by first | exact al2b (set3b hs1.out (by omega)) _ _ | exact (al2b (set3b hs1.out (by omega)) _ _).drew)⟩
set_option maxHeartbeats 1000000 in
theorem work_any (h w c lo hi ot : Int) (oa : Option Addr) (on oc : Nat) (O : Nat → Nat → Int) (W : World) (hM : MRow W oa on oc O) :
    Calls Try.prog 10 #[.agg #[.int .i64 h, .int .i64 w, .int .i64 c, .int .i64 lo, .int .i64 hi, .slice oa on oc, .int .i64 ot]] W fun e w' => e = .returned (.tuple #[.int .i64 (gtR O h w c lo hi ot on).2.2.2, .agg #[.int .i64 (gtR O h w c lo hi ot on).1, .int .i64 (gtR O h w c lo hi ot on).2.1, .int .i64 0]]) ∧ Below W.heap.size W w' := by
  have hG : Hid (∀ W, MRow W oa on oc O → _) := fun W hW => gothrough_any h w c lo hi ot oa on oc O W hW
  obtain ⟨Re, Ra, RL, Rw, hR⟩ : ∃ Re Ra RL Rw, gtR O h w c lo hi ot on = (Re, Ra, RL, Rw) := ⟨_, _, _, _, rfl⟩
  rw [hR] at hG ⊢
  simp only
  have hM2 : Hid (MRow W oa on oc O) := hM
  clear hR hM
  go_enter Try.func10, Try.ntmps10
  go_wp2_with fail
  refine Calls.mono (hG.out _ (hM2.out.below (St.start W).new.new.below)) ?_
  rintro e w1 ⟨v, rfl, hS, hb⟩
  obtain ⟨va, vc, rfl⟩ := hS.slice
  have s1 := ((St.start W).new.new).call hb
  simp only [World.size_alloc] at s1
  obtain ⟨c1, f1, z1, c2, f2, z2, -⟩ := s1.rules
  have hS2 : Hid (Shp w1 W.heap.size (.slice va RL.length vc) RL) := hS.base (by simp; omega)
  have hs1 : Hid (Below W.heap.size W w1) := s1.below
  have hlt : Hid (∀ g, W.heap.size + 1 + 1 ≤ g → g ≠ W.heap.size + 1) := fun g hg => by omega
  have hS3 : Hid (Shp w1 (W.heap.size + 1 + 1) (.slice va RL.length vc) RL) := by unfold Hid; simpa using hS
  clear hb hS s1
  go_wp2
  go_region_law (fail)
  all_goals
    go_wp2
    exact bodyPost_ret (v := .tuple #[.int .i64 Rw, .agg #[.int .i64 Re, .int .i64 Ra, .int .i64 0]]) (by simp [results, Try.results10, go_sem, *]) rfl ⟨rfl, (by first | exact al2b (set3b hs1.out (by omega)) _ _ | exact (al2b (set3b hs1.out (by omega)) _ _).drew)⟩
end Go.Proofs.Ytfgbolekenlheaa
