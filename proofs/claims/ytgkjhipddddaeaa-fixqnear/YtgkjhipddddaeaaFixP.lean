/- The walks of FixqOdd and FixqNear: each returns true for every argument that fits its type. -/
import Derived.Test.YtgkjhipddddaeaaFixC
import Derived.Test.YtgkjhipddddaeaaFixN
namespace Go.Proofs.Ytgkjhipddddaeaa
open Go.ChangeShapes Go.WideShapes Go.ChangeAt Go.RowKit
theorem ap_bad (a m s : Int) (h : scB m s = false) : apV a m s = 0 ∧ apE a m s = 20 := by unfold apV apE; rw [h]; exact ⟨rfl, rfl⟩
theorem ap_far (a m s : Int) (h : scB m s = true) (g : acB a = false) : apV a m s = 0 ∧ apE a m s = 10 := by unfold apV apE; rw [h, g]; exact ⟨rfl, rfl⟩
theorem ap_ok (a m s : Int) (h : scB m s = true) (g : acB a = true) : apV a m s = rq (a * m) (p2 s) ∧ apE a m s = 0 := by unfold apV apE; rw [h, g]; exact ⟨rfl, rfl⟩
theorem ap_bd (a m s : Int) (h : scB m s = true) (g : acB a = true) : -9223372032559808512 ≤ apV a m s ∧ apV a m s ≤ 9223372032559808512 := by
  rw [(ap_ok a m s h g).1]
  have hn : -4294967296 ≤ a ∧ a ≤ 4294967296 := by unfold acB at g; simpa using g
  have hm : 1 ≤ m ∧ m ≤ 2147483647 ∧ 0 ≤ s ∧ s ≤ 62 := by unfold scB at h; simpa using h
  have hp := prod_bd a m hn.1 hn.2 hm.1 hm.2.1
  obtain ⟨h1, h2, h3, h4⟩ := rq_size (a * m) (p2 s) (p2_pos s)
  unfold sizeV at h1 h2
  by_cases c : a * m < 0
  · have := h3 c
    rw [if_pos c] at h1 h2; omega
  · have := h4 c
    rw [if_neg c] at h1 h2; omega
theorem ap_odd (a m s : Int) (h : scB m s = true) (g : acB a = true) : apV (-a) m s = -(apV a m s) ∧ apE (-a) m s = 0 := by
  have g' : acB (-a) = true := by unfold acB at *; simp at *; omega
  rw [(ap_ok a m s h g).1, (ap_ok (-a) m s h g').1, (ap_ok (-a) m s h g').2, Int.neg_mul, rq_odd _ _ (p2_pos s)]
  exact ⟨rfl, rfl⟩
theorem ap_mono (a b m s : Int) (h : scB m s = true) (g : acB a = true) (g2 : acB b = true) (hl : a ≤ b) : apV a m s ≤ apV b m s := by
  rw [(ap_ok a m s h g).1, (ap_ok b m s h g2).1]
  have hm : 1 ≤ m ∧ m ≤ 2147483647 ∧ 0 ≤ s ∧ s ≤ 62 := by unfold scB at h; simpa using h
  exact rq_mono _ _ _ (p2_pos s) (Int.mul_le_mul_of_nonneg_right hl (by omega))
set_option maxHeartbeats 1000000 in
theorem fixqOdd_walk (a b m s : Int) (w : World) (w0 : (Lit.int .i64 a).wf = true) (_w1 : (Lit.int .i64 b).wf = true) (_w2 : (Lit.int .i64 m).wf = true) (_w3 : (Lit.int .i64 s).wf = true) :
    Calls Try.prog 8 #[.int .i64 a, .int .i64 b, .agg #[.int .i64 m, .int .i64 s]] w fun e w' => e = .returned (.bool true) ∧ Below w.heap.size w w' := by
  have ha := I64_of_wf w0
  obtain ⟨a1, a2⟩ := ha
  clear w0 _w1 _w2 _w3
  cases hs : scB m s with
  | false =>
    have HA : Hid (apV a m s = 0 ∧ apE a m s = 20) := ap_bad a m s hs
    have HB : Hid (apV b m s = 0 ∧ apE b m s = 20) := ap_bad b m s hs
    clear hs
    go_enter Try.func8, Try.ntmps8
    go_wp2_with fail
    refine (fixed2_any _).mono ?_
    rintro e w1 ⟨rfl, h1⟩
    obtain ⟨c0, c1, hz, hB⟩ := keep2 (new2 w m s _) h1
    clear h1
    go_wp2_with fail
    refine (apply_any _ _ _ _).mono ?_
    rintro e w2 ⟨rfl, h2⟩
    rw [HA.out.1, HA.out.2]
    obtain ⟨d0, d1, hy, hC⟩ := keep2 ⟨c0, c1, hz, hB⟩ h2
    clear h2 c0 c1 hz hB
    go_wp2_with fail
    refine (apply_any _ _ _ _).mono ?_
    rintro e w3 ⟨rfl, h3⟩
    rw [HB.out.1, HB.out.2]
    obtain ⟨c0, c1, hz, hB⟩ := keep2 ⟨d0, d1, hy, hC⟩ h3
    clear h3 d0 d1 hy hC
    go_wp2
    go_ret
    exact ⟨rfl, hB⟩
  | true =>
    cases ga : acB a with
    | false =>
      have HA : Hid (apV a m s = 0 ∧ apE a m s = 10) := ap_far a m s hs ga
      clear hs ga
      go_enter Try.func8, Try.ntmps8
      go_wp2_with fail
      refine (fixed2_any _).mono ?_
      rintro e w1 ⟨rfl, h1⟩
      obtain ⟨c0, c1, hz, hB⟩ := keep2 (new2 w m s _) h1
      clear h1
      go_wp2_with fail
      refine (apply_any _ _ _ _).mono ?_
      rintro e w2 ⟨rfl, h2⟩
      rw [HA.out.1, HA.out.2]
      obtain ⟨d0, d1, hy, hC⟩ := keep2 ⟨c0, c1, hz, hB⟩ h2
      clear h2 c0 c1 hz hB
      go_wp2_with fail
      refine (apply_any _ _ _ _).mono ?_
      rintro e w3 ⟨rfl, h3⟩
      obtain ⟨c0, c1, hz, hB⟩ := keep2 ⟨d0, d1, hy, hC⟩ h3
      clear h3 d0 d1 hy hC
      go_wp2
      go_ret
      exact ⟨rfl, hB⟩
    | true =>
      have hn : -4294967296 ≤ a ∧ a ≤ 4294967296 := by unfold acB at ga; simpa using ga
      obtain ⟨n1, n2⟩ := hn
      have HE : Hid (apE a m s = 0) := (ap_ok a m s hs ga).2
      have HN : Hid (apV (-a) m s = -(apV a m s) ∧ apE (-a) m s = 0) := ap_odd a m s hs ga
      obtain ⟨b1, b2⟩ := ap_bd a m s hs ga
      cases gb : acB b with
      | false =>
        have HB : Hid (apV b m s = 0 ∧ apE b m s = 10) := ap_far b m s hs gb
        clear hs ga gb
        go_enter Try.func8, Try.ntmps8
        go_wp2_with fail
        refine (fixed2_any _).mono ?_
        rintro e w1 ⟨rfl, h1⟩
        obtain ⟨c0, c1, hz, hB⟩ := keep2 (new2 w m s _) h1
        clear h1
        go_wp2_with fail
        refine (apply_any _ _ _ _).mono ?_
        rintro e w2 ⟨rfl, h2⟩
        rw [HE.out]
        obtain ⟨d0, d1, hy, hC⟩ := keep2 ⟨c0, c1, hz, hB⟩ h2
        clear h2 c0 c1 hz hB
        go_wp2_with fail
        refine (apply_any _ _ _ _).mono ?_
        rintro e w3 ⟨rfl, h3⟩
        rw [HB.out.1, HB.out.2]
        obtain ⟨c0, c1, hz, hB⟩ := keep2 ⟨d0, d1, hy, hC⟩ h3
        clear h3 d0 d1 hy hC
        go_wp2_with fail
        refine (apply_any _ _ _ _).mono ?_
        rintro e w4 ⟨rfl, h4⟩
        rw [HN.out.1, HN.out.2]
        obtain ⟨d0, d1, hy, hC⟩ := keep2 ⟨c0, c1, hz, hB⟩ h4
        clear h4 c0 c1 hz hB
        go_wp2
        go_ret
        exact ⟨rfl, hC⟩
      | true =>
        have HB : Hid (apE b m s = 0) := (ap_ok b m s hs gb).2
        have hlt : a < b → apV a m s ≤ apV b m s := fun h => ap_mono a b m s hs ga gb (by omega)
        have hgt : b < a → apV b m s ≤ apV a m s := fun h => ap_mono b a m s hs gb ga (by omega)
        have heq : ¬ a < b → ¬ b < a → apV a m s = apV b m s := fun h g => by rw [show a = b by omega]
        clear hs ga gb
        by_cases l1 : a < b
        · have l2 : ¬ b < a := by omega
          have l3 := hlt l1
          clear hlt hgt heq
          go_enter Try.func8, Try.ntmps8
          go_wp2_with fail
          refine (fixed2_any _).mono ?_
          rintro e w1 ⟨rfl, h1⟩
          obtain ⟨c0, c1, hz, hB⟩ := keep2 (new2 w m s _) h1
          clear h1
          go_wp2_with fail
          refine (apply_any _ _ _ _).mono ?_
          rintro e w2 ⟨rfl, h2⟩
          rw [HE.out]
          obtain ⟨d0, d1, hy, hC⟩ := keep2 ⟨c0, c1, hz, hB⟩ h2
          clear h2 c0 c1 hz hB
          go_wp2_with fail
          refine (apply_any _ _ _ _).mono ?_
          rintro e w3 ⟨rfl, h3⟩
          rw [HB.out]
          obtain ⟨c0, c1, hz, hB⟩ := keep2 ⟨d0, d1, hy, hC⟩ h3
          clear h3 d0 d1 hy hC
          go_wp2_with fail
          refine (apply_any _ _ _ _).mono ?_
          rintro e w4 ⟨rfl, h4⟩
          rw [HN.out.1, HN.out.2]
          obtain ⟨d0, d1, hy, hC⟩ := keep2 ⟨c0, c1, hz, hB⟩ h4
          clear h4 c0 c1 hz hB
          go_wp2
          go_ret
          exact ⟨rfl, hC⟩
        · by_cases l2 : b < a
          · have l3 := hgt l2
            clear hlt hgt heq
            go_enter Try.func8, Try.ntmps8
            go_wp2_with fail
            refine (fixed2_any _).mono ?_
            rintro e w1 ⟨rfl, h1⟩
            obtain ⟨c0, c1, hz, hB⟩ := keep2 (new2 w m s _) h1
            clear h1
            go_wp2_with fail
            refine (apply_any _ _ _ _).mono ?_
            rintro e w2 ⟨rfl, h2⟩
            rw [HE.out]
            obtain ⟨d0, d1, hy, hC⟩ := keep2 ⟨c0, c1, hz, hB⟩ h2
            clear h2 c0 c1 hz hB
            go_wp2_with fail
            refine (apply_any _ _ _ _).mono ?_
            rintro e w3 ⟨rfl, h3⟩
            rw [HB.out]
            obtain ⟨c0, c1, hz, hB⟩ := keep2 ⟨d0, d1, hy, hC⟩ h3
            clear h3 d0 d1 hy hC
            go_wp2_with fail
            refine (apply_any _ _ _ _).mono ?_
            rintro e w4 ⟨rfl, h4⟩
            rw [HN.out.1, HN.out.2]
            obtain ⟨d0, d1, hy, hC⟩ := keep2 ⟨c0, c1, hz, hB⟩ h4
            clear h4 c0 c1 hz hB
            go_wp2
            go_ret
            exact ⟨rfl, hC⟩
          · have HQ : Hid (apV a m s = apV b m s) := heq l1 l2
            clear hlt hgt heq
            go_enter Try.func8, Try.ntmps8
            go_wp2_with fail
            refine (fixed2_any _).mono ?_
            rintro e w1 ⟨rfl, h1⟩
            obtain ⟨c0, c1, hz, hB⟩ := keep2 (new2 w m s _) h1
            clear h1
            go_wp2_with fail
            refine (apply_any _ _ _ _).mono ?_
            rintro e w2 ⟨rfl, h2⟩
            rw [HE.out]
            obtain ⟨d0, d1, hy, hC⟩ := keep2 ⟨c0, c1, hz, hB⟩ h2
            clear h2 c0 c1 hz hB
            go_wp2_with fail
            refine (apply_any _ _ _ _).mono ?_
            rintro e w3 ⟨rfl, h3⟩
            rw [HB.out, ← HQ.out]
            obtain ⟨c0, c1, hz, hB⟩ := keep2 ⟨d0, d1, hy, hC⟩ h3
            clear h3 d0 d1 hy hC
            go_wp2_with fail
            refine (apply_any _ _ _ _).mono ?_
            rintro e w4 ⟨rfl, h4⟩
            rw [HN.out.1, HN.out.2]
            obtain ⟨d0, d1, hy, hC⟩ := keep2 ⟨c0, c1, hz, hB⟩ h4
            clear h4 c0 c1 hz hB
            go_wp2
            go_ret
            exact ⟨rfl, hC⟩
end Go.Proofs.Ytgkjhipddddaeaa
