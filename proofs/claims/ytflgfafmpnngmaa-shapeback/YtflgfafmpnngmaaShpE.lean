/- Where of a Place is the spot, Place of a Where the place: the walk of ShapeBack; the walk of ShapePlaces. -/
import Derived.Test.YtflgfafmpnngmaaShpD
namespace Go.Proofs.Ytflgfafmpnngmaa
open Go.ChangeShapes Go.WideShapes Go.ChangeAt Go.RowKit
theorem there {h w c y x z : Int} (g : vS h w c = true) (k : (0 ≤ y ∧ y < h) ∧ (0 ≤ x ∧ x < w) ∧ (0 ≤ z ∧ z < c)) : whR h w c ((y * w + x) * c + z) = (y, x, z, 0) := by
  obtain ⟨⟨h1, h2⟩, ⟨g1, g2⟩, ⟨k1, k2⟩⟩ := k
  obtain ⟨p1, p2⟩ := row_bd h2 h1 g1 g2
  obtain ⟨r1, r2⟩ := row_bd p2 (by omega : 0 ≤ y * w + x) k1 k2
  rw [whR_in g ⟨by omega, r2⟩]
  have e1 : ((y * w + x) * c + z) / c = y * w + x := by
    rw [Int.add_comm, Int.add_mul_ediv_right _ _ (by omega), Int.ediv_eq_zero_of_lt k1 k2]; omega
  have e2 : ((y * w + x) * c + z) % c = z := by
    rw [Int.add_comm, Int.add_mul_emod_self_right, Int.emod_eq_of_lt k1 k2]
  have e3 : (y * w + x) / w = y := by
    rw [Int.add_comm, Int.add_mul_ediv_right _ _ (by omega), Int.ediv_eq_zero_of_lt g1 g2]; omega
  have e4 : (y * w + x) % w = x := by
    rw [Int.add_comm, Int.add_mul_emod_self_right, Int.emod_eq_of_lt g1 g2]
  rw [e1, e2, e3, e4]
theorem back {h w c n : Int} (g : vS h w c = true) (k : 0 ≤ n ∧ n < h * w * c) : plR h w c (n / c / w) (n / c % w) (n % c) = (n, 0) := by
  obtain ⟨⟨h1, h2⟩, ⟨w1, w2⟩, ⟨c1, c2⟩, -⟩ := vS_yes g
  have d1 := div_lt (show 0 < c by omega) k.2
  have e1 := Int.ediv_nonneg k.1 (show 0 ≤ c by omega)
  have d2 := div_lt (show 0 < w by omega) d1
  have e2 := Int.ediv_nonneg e1 (show 0 ≤ w by omega)
  have b3 := Int.emod_nonneg n (show c ≠ 0 by omega)
  have b4 := Int.emod_lt_of_pos n (show 0 < c by omega)
  have b5 := Int.emod_nonneg (n / c) (show w ≠ 0 by omega)
  have b6 := Int.emod_lt_of_pos (n / c) (show 0 < w by omega)
  rw [plR_in g ⟨⟨e2, d2⟩, ⟨b5, b6⟩, ⟨b3, b4⟩⟩, Int.ediv_mul_add_emod, Int.ediv_mul_add_emod]
theorem shapePlaces_walk (h w c y x z : Int) (W : World) (_w0 : (Lit.int .i64 h).wf = true) (_w1 : (Lit.int .i64 w).wf = true) (_w2 : (Lit.int .i64 c).wf = true) (_w3 : (Lit.int .i64 y).wf = true) (_w4 : (Lit.int .i64 x).wf = true) (_w5 : (Lit.int .i64 z).wf = true) :
    Calls Try.prog 4 #[.agg #[.int .i64 h, .int .i64 w, .int .i64 c], .agg #[.int .i64 y, .int .i64 x, .int .i64 z]] W fun e w' => e = .returned (.bool true) ∧ Below W.heap.size W w' := by
  clear _w0 _w1 _w2 _w3 _w4 _w5
  go_enter Try.func4, Try.ntmps4
  go_wp2_with fail
  refine (place_any _ _ _ _ _ _ _).mono ?_
  rintro e w1 ⟨rfl, hb'⟩
  have s1 := (St.start W).new.new.call hb'
  clear hb'
  try simp only [World.size_setCell] at s1
  try simp only [World.size_alloc] at s1
  obtain ⟨c1, f1, zw1_1, c2, f2, zw1_2, -⟩ := s1.rules
  go_wp2_with fail
  refine (rplace_any _ _ _ _ _ _ _).mono ?_
  rintro e w2 ⟨rfl, hb'⟩
  have s2 := s1.call hb'
  clear hb' c1 f1 c2 f2
  try simp only [World.size_setCell] at s2
  try simp only [World.size_alloc] at s2
  obtain ⟨c1, f1, zw2_1, c2, f2, zw2_2, -⟩ := s2.rules
  go_wp2_with fail
  refine (fixed_any _).mono ?_
  rintro e w3 ⟨rfl, hb'⟩
  have s3 := s2.call hb'
  clear hb' c1 f1 c2 f2
  try simp only [World.size_setCell] at s3
  try simp only [World.size_alloc] at s3
  obtain ⟨c1, f1, zw3_1, c2, f2, zw3_2, -⟩ := s3.rules
  go_wp2
  go_ret
  exact ⟨rfl, s3.below⟩
theorem shapeBack_walk (h w c y x z n : Int) (W : World) (_w0 : (Lit.int .i64 h).wf = true) (_w1 : (Lit.int .i64 w).wf = true) (_w2 : (Lit.int .i64 c).wf = true) (_w3 : (Lit.int .i64 y).wf = true) (_w4 : (Lit.int .i64 x).wf = true) (_w5 : (Lit.int .i64 z).wf = true) (_w6 : (Lit.int .i64 n).wf = true) :
    Calls Try.prog 6 #[.agg #[.int .i64 h, .int .i64 w, .int .i64 c], .agg #[.int .i64 y, .int .i64 x, .int .i64 z], .int .i64 n] W fun e w' => e = .returned (.bool true) ∧ Below W.heap.size W w' := by
  clear _w0 _w1 _w2 _w3 _w4 _w5 _w6
  cases hv : vS h w c with
  | false =>
    have HE : Hid (elR h w c = (0, 50)) := elR_no hv
    have HP : Hid (plR h w c y x z = (0, 50)) := plR_bad hv
    have HW : Hid (whR h w c n = (0, 0, 0, 50)) := whR_bad hv
    clear hv
    go_enter Try.func6, Try.ntmps6
    go_wp2_with fail
    refine (fixed_any _).mono ?_
    rintro e w1 ⟨rfl, hb'⟩
    have s1 := (St.start W).new.new.call hb'
    clear hb'
    try simp only [World.size_setCell] at s1
    try simp only [World.size_alloc] at s1
    obtain ⟨c1, f1, zw1_1, c2, f2, zw1_2, -⟩ := s1.rules
    go_wp2_with fail
    refine (place_any _ _ _ _ _ _ _).mono ?_
    rintro e w2 ⟨rfl, hb'⟩
    have s2 := s1.call hb'
    clear hb' c1 f1 c2 f2
    try simp only [World.size_setCell] at s2
    try simp only [World.size_alloc] at s2
    obtain ⟨c1, f1, zw2_1, c2, f2, zw2_2, -⟩ := s2.rules
    rw [HP.out]
    go_wp2_with fail
    refine (selems_any _ _ _ _).mono ?_
    rintro e w3 ⟨rfl, hb'⟩
    have s3 := s2.call hb'
    clear hb' c1 f1 c2 f2
    try simp only [World.size_setCell] at s3
    try simp only [World.size_alloc] at s3
    obtain ⟨c1, f1, zw3_1, c2, f2, zw3_2, -⟩ := s3.rules
    rw [HE.out]
    go_wp2_with fail
    refine (where_any _ _ _ _ _).mono ?_
    rintro e w4 ⟨rfl, hb'⟩
    have s4 := s3.call hb'
    clear hb' c1 f1 c2 f2
    try simp only [World.size_setCell] at s4
    try simp only [World.size_alloc] at s4
    obtain ⟨c1, f1, zw4_1, c2, f2, zw4_2, -⟩ := s4.rules
    rw [HW.out]
    go_wp2
    go_ret
    exact ⟨rfl, s4.below⟩
  | true =>
    have HE : Hid (elR h w c = (h * w * c, 0)) := elR_ok hv
    by_cases k : (0 ≤ y ∧ y < h) ∧ (0 ≤ x ∧ x < w) ∧ (0 ≤ z ∧ z < c)
    · have HP : Hid (plR h w c y x z = ((y * w + x) * c + z, 0)) := plR_in hv k
      have HT : Hid (whR h w c ((y * w + x) * c + z) = (y, x, z, 0)) := there hv k
      clear k
      obtain ⟨p, hp⟩ : ∃ p, (y * w + x) * c + z = p := ⟨_, rfl⟩
      rw [hp] at HP HT
      clear hp
      by_cases m : 0 ≤ n ∧ n < h * w * c
      · have HW : Hid (whR h w c n = (n / c / w, n / c % w, n % c, 0)) := whR_in hv m
        have HB : Hid (plR h w c (n / c / w) (n / c % w) (n % c) = (n, 0)) := back hv m
        obtain ⟨m1, m2⟩ := m
        clear hv
        obtain ⟨q, hq⟩ : ∃ q, h * w * c = q := ⟨_, rfl⟩
        rw [hq] at HE m2
        clear hq
        obtain ⟨a, ha⟩ : ∃ a, n / c / w = a := ⟨_, rfl⟩
        obtain ⟨b, hb'⟩ : ∃ b, n / c % w = b := ⟨_, rfl⟩
        obtain ⟨d, hd⟩ : ∃ d, n % c = d := ⟨_, rfl⟩
        rw [ha, hb', hd] at HW HB
        clear ha hb' hd
        go_enter Try.func6, Try.ntmps6
        go_wp2_with fail
        refine (fixed_any _).mono ?_
        rintro e w1 ⟨rfl, hb'⟩
        have s1 := (St.start W).new.new.call hb'
        clear hb'
        try simp only [World.size_setCell] at s1
        try simp only [World.size_alloc] at s1
        obtain ⟨c1, f1, zw1_1, c2, f2, zw1_2, -⟩ := s1.rules
        go_wp2_with fail
        refine (place_any _ _ _ _ _ _ _).mono ?_
        rintro e w2 ⟨rfl, hb'⟩
        have s2 := s1.call hb'
        clear hb' c1 f1 c2 f2
        try simp only [World.size_setCell] at s2
        try simp only [World.size_alloc] at s2
        obtain ⟨c1, f1, zw2_1, c2, f2, zw2_2, -⟩ := s2.rules
        rw [HP.out]
        go_wp2_with fail
        refine (where_any _ _ _ _ _).mono ?_
        rintro e w3 ⟨rfl, hb'⟩
        have s3 := s2.call hb'
        clear hb' c1 f1 c2 f2
        try simp only [World.size_setCell] at s3
        try simp only [World.size_alloc] at s3
        obtain ⟨c1, f1, zw3_1, c2, f2, zw3_2, -⟩ := s3.rules
        rw [HT.out]
        go_wp2_with fail
        refine (selems_any _ _ _ _).mono ?_
        rintro e w4 ⟨rfl, hb'⟩
        have s4 := s3.call hb'
        clear hb' c1 f1 c2 f2
        try simp only [World.size_setCell] at s4
        try simp only [World.size_alloc] at s4
        obtain ⟨c1, f1, zw4_1, c2, f2, zw4_2, -⟩ := s4.rules
        rw [HE.out]
        go_wp2_with fail
        refine (where_any _ _ _ _ _).mono ?_
        rintro e w5 ⟨rfl, hb'⟩
        have s5 := s4.call hb'
        clear hb' c1 f1 c2 f2
        try simp only [World.size_setCell] at s5
        try simp only [World.size_alloc] at s5
        obtain ⟨c1, f1, zw5_1, c2, f2, zw5_2, -⟩ := s5.rules
        rw [HW.out]
        go_wp2_with fail
        refine (place_any _ _ _ _ _ _ _).mono ?_
        rintro e w6 ⟨rfl, hb'⟩
        have s6 := s5.call hb'
        clear hb' c1 f1 c2 f2
        try simp only [World.size_setCell] at s6
        try simp only [World.size_alloc] at s6
        obtain ⟨c1, f1, zw6_1, c2, f2, zw6_2, -⟩ := s6.rules
        rw [HB.out]
        go_wp2
        go_ret
        exact ⟨rfl, s6.below⟩
      · have HW : Hid (whR h w c n = (0, 0, 0, 3)) := whR_out hv m
        clear hv
        obtain ⟨q, hq⟩ : ∃ q, h * w * c = q := ⟨_, rfl⟩
        rw [hq] at HE m
        clear hq
        go_enter Try.func6, Try.ntmps6
        go_wp2_with fail
        refine (fixed_any _).mono ?_
        rintro e w1 ⟨rfl, hb'⟩
        have s1 := (St.start W).new.new.call hb'
        clear hb'
        try simp only [World.size_setCell] at s1
        try simp only [World.size_alloc] at s1
        obtain ⟨c1, f1, zw1_1, c2, f2, zw1_2, -⟩ := s1.rules
        go_wp2_with fail
        refine (place_any _ _ _ _ _ _ _).mono ?_
        rintro e w2 ⟨rfl, hb'⟩
        have s2 := s1.call hb'
        clear hb' c1 f1 c2 f2
        try simp only [World.size_setCell] at s2
        try simp only [World.size_alloc] at s2
        obtain ⟨c1, f1, zw2_1, c2, f2, zw2_2, -⟩ := s2.rules
        rw [HP.out]
        go_wp2_with fail
        refine (where_any _ _ _ _ _).mono ?_
        rintro e w3 ⟨rfl, hb'⟩
        have s3 := s2.call hb'
        clear hb' c1 f1 c2 f2
        try simp only [World.size_setCell] at s3
        try simp only [World.size_alloc] at s3
        obtain ⟨c1, f1, zw3_1, c2, f2, zw3_2, -⟩ := s3.rules
        rw [HT.out]
        go_wp2_with fail
        refine (selems_any _ _ _ _).mono ?_
        rintro e w4 ⟨rfl, hb'⟩
        have s4 := s3.call hb'
        clear hb' c1 f1 c2 f2
        try simp only [World.size_setCell] at s4
        try simp only [World.size_alloc] at s4
        obtain ⟨c1, f1, zw4_1, c2, f2, zw4_2, -⟩ := s4.rules
        rw [HE.out]
        go_wp2_with fail
        refine (where_any _ _ _ _ _).mono ?_
        rintro e w5 ⟨rfl, hb'⟩
        have s5 := s4.call hb'
        clear hb' c1 f1 c2 f2
        try simp only [World.size_setCell] at s5
        try simp only [World.size_alloc] at s5
        obtain ⟨c1, f1, zw5_1, c2, f2, zw5_2, -⟩ := s5.rules
        rw [HW.out]
        by_cases m1 : n < 0
        · go_wp2
          go_ret
          exact ⟨rfl, s5.below⟩
        · have m2 : ¬ n < q := by omega
          go_wp2
          go_ret
          exact ⟨rfl, s5.below⟩
    · have HP : Hid (plR h w c y x z = (0, 3)) := plR_out hv k
      clear k
      by_cases m : 0 ≤ n ∧ n < h * w * c
      · have HW : Hid (whR h w c n = (n / c / w, n / c % w, n % c, 0)) := whR_in hv m
        have HB : Hid (plR h w c (n / c / w) (n / c % w) (n % c) = (n, 0)) := back hv m
        obtain ⟨m1, m2⟩ := m
        clear hv
        obtain ⟨q, hq⟩ : ∃ q, h * w * c = q := ⟨_, rfl⟩
        rw [hq] at HE m2
        clear hq
        obtain ⟨a, ha⟩ : ∃ a, n / c / w = a := ⟨_, rfl⟩
        obtain ⟨b, hb'⟩ : ∃ b, n / c % w = b := ⟨_, rfl⟩
        obtain ⟨d, hd⟩ : ∃ d, n % c = d := ⟨_, rfl⟩
        rw [ha, hb', hd] at HW HB
        clear ha hb' hd
        go_enter Try.func6, Try.ntmps6
        go_wp2_with fail
        refine (fixed_any _).mono ?_
        rintro e w1 ⟨rfl, hb'⟩
        have s1 := (St.start W).new.new.call hb'
        clear hb'
        try simp only [World.size_setCell] at s1
        try simp only [World.size_alloc] at s1
        obtain ⟨c1, f1, zw1_1, c2, f2, zw1_2, -⟩ := s1.rules
        go_wp2_with fail
        refine (place_any _ _ _ _ _ _ _).mono ?_
        rintro e w2 ⟨rfl, hb'⟩
        have s2 := s1.call hb'
        clear hb' c1 f1 c2 f2
        try simp only [World.size_setCell] at s2
        try simp only [World.size_alloc] at s2
        obtain ⟨c1, f1, zw2_1, c2, f2, zw2_2, -⟩ := s2.rules
        rw [HP.out]
        go_wp2_with fail
        refine (selems_any _ _ _ _).mono ?_
        rintro e w4 ⟨rfl, hb'⟩
        have s4 := s2.call hb'
        clear hb' c1 f1 c2 f2
        try simp only [World.size_setCell] at s4
        try simp only [World.size_alloc] at s4
        obtain ⟨c1, f1, zw4_1, c2, f2, zw4_2, -⟩ := s4.rules
        rw [HE.out]
        go_wp2_with fail
        refine (where_any _ _ _ _ _).mono ?_
        rintro e w5 ⟨rfl, hb'⟩
        have s5 := s4.call hb'
        clear hb' c1 f1 c2 f2
        try simp only [World.size_setCell] at s5
        try simp only [World.size_alloc] at s5
        obtain ⟨c1, f1, zw5_1, c2, f2, zw5_2, -⟩ := s5.rules
        rw [HW.out]
        go_wp2_with fail
        refine (place_any _ _ _ _ _ _ _).mono ?_
        rintro e w6 ⟨rfl, hb'⟩
        have s6 := s5.call hb'
        clear hb' c1 f1 c2 f2
        try simp only [World.size_setCell] at s6
        try simp only [World.size_alloc] at s6
        obtain ⟨c1, f1, zw6_1, c2, f2, zw6_2, -⟩ := s6.rules
        rw [HB.out]
        go_wp2
        go_ret
        exact ⟨rfl, s6.below⟩
      · have HW : Hid (whR h w c n = (0, 0, 0, 3)) := whR_out hv m
        clear hv
        obtain ⟨q, hq⟩ : ∃ q, h * w * c = q := ⟨_, rfl⟩
        rw [hq] at HE m
        clear hq
        go_enter Try.func6, Try.ntmps6
        go_wp2_with fail
        refine (fixed_any _).mono ?_
        rintro e w1 ⟨rfl, hb'⟩
        have s1 := (St.start W).new.new.call hb'
        clear hb'
        try simp only [World.size_setCell] at s1
        try simp only [World.size_alloc] at s1
        obtain ⟨c1, f1, zw1_1, c2, f2, zw1_2, -⟩ := s1.rules
        go_wp2_with fail
        refine (place_any _ _ _ _ _ _ _).mono ?_
        rintro e w2 ⟨rfl, hb'⟩
        have s2 := s1.call hb'
        clear hb' c1 f1 c2 f2
        try simp only [World.size_setCell] at s2
        try simp only [World.size_alloc] at s2
        obtain ⟨c1, f1, zw2_1, c2, f2, zw2_2, -⟩ := s2.rules
        rw [HP.out]
        go_wp2_with fail
        refine (selems_any _ _ _ _).mono ?_
        rintro e w4 ⟨rfl, hb'⟩
        have s4 := s2.call hb'
        clear hb' c1 f1 c2 f2
        try simp only [World.size_setCell] at s4
        try simp only [World.size_alloc] at s4
        obtain ⟨c1, f1, zw4_1, c2, f2, zw4_2, -⟩ := s4.rules
        rw [HE.out]
        go_wp2_with fail
        refine (where_any _ _ _ _ _).mono ?_
        rintro e w5 ⟨rfl, hb'⟩
        have s5 := s4.call hb'
        clear hb' c1 f1 c2 f2
        try simp only [World.size_setCell] at s5
        try simp only [World.size_alloc] at s5
        obtain ⟨c1, f1, zw5_1, c2, f2, zw5_2, -⟩ := s5.rules
        rw [HW.out]
        by_cases m1 : n < 0
        · go_wp2
          go_ret
          exact ⟨rfl, s5.below⟩
        · have m2 : ¬ n < q := by omega
          go_wp2
          go_ret
          exact ⟨rfl, s5.below⟩
end Go.Proofs.Ytflgfafmpnngmaa
