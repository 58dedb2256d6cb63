/- The next channel is the next place, the next column and row are as far as Strides tells: the walk of ShapeSteps. -/
import Derived.Test.YtflgfafmpnngmaaShpD
namespace Go.Proofs.Ytflgfafmpnngmaa
open Go.ChangeShapes Go.WideShapes Go.ChangeAt Go.RowKit
theorem hid {p : Prop} (h : p) : Hid p := h
theorem next_row {h w c y x z p : Int} (g : vS h w c = true) (k : (0 ≤ y ∧ y < h) ∧ (0 ≤ x ∧ x < w) ∧ (0 ≤ z ∧ z < c)) (hp : (y * w + x) * c + z = p) (m : y + 1 < h) : plR h w c (y + 1) x z = (p + w * c, 0) := by
  rw [plR_in g ⟨⟨by omega, m⟩, k.2.1, k.2.2⟩, ← hp]
  simp only [Int.add_mul, Int.one_mul]; congr 1; omega
theorem next_col {h w c y x z p : Int} (g : vS h w c = true) (k : (0 ≤ y ∧ y < h) ∧ (0 ≤ x ∧ x < w) ∧ (0 ≤ z ∧ z < c)) (hp : (y * w + x) * c + z = p) (m : x + 1 < w) : plR h w c y (x + 1) z = (p + c, 0) := by
  rw [plR_in g ⟨k.1, ⟨by omega, m⟩, k.2.2⟩, ← hp]
  simp only [Int.add_mul, Int.one_mul]; congr 1; omega
theorem next_chan {h w c y x z p : Int} (g : vS h w c = true) (k : (0 ≤ y ∧ y < h) ∧ (0 ≤ x ∧ x < w) ∧ (0 ≤ z ∧ z < c)) (hp : (y * w + x) * c + z = p) (m : z + 1 < c) : plR h w c y x (z + 1) = (p + 1, 0) := by
  rw [plR_in g ⟨k.1, k.2.1, ⟨by omega, m⟩⟩, ← hp]
  congr 1; omega
theorem plR_err {h w c y x z : Int} (g : ¬ (vS h w c = true ∧ ((0 ≤ y ∧ y < h) ∧ (0 ≤ x ∧ x < w) ∧ (0 ≤ z ∧ z < c)))) : ∃ e : Int, plR h w c y x z = (0, e) ∧ (e == 0) = false := by
  cases hv : vS h w c with
  | false => exact ⟨50, plR_bad hv, rfl⟩
  | true => exact ⟨3, plR_out hv fun k => g ⟨hv, k⟩, rfl⟩
set_option maxHeartbeats 4000000 in
theorem shapeSteps_walk (h w c y x z : Int) (W : World) (_w0 : (Lit.int .i64 h).wf = true) (_w1 : (Lit.int .i64 w).wf = true) (_w2 : (Lit.int .i64 c).wf = true) (_w3 : (Lit.int .i64 y).wf = true) (_w4 : (Lit.int .i64 x).wf = true) (_w5 : (Lit.int .i64 z).wf = true) :
    Calls Try.prog 7 #[.agg #[.int .i64 h, .int .i64 w, .int .i64 c], .agg #[.int .i64 y, .int .i64 x, .int .i64 z]] W fun e w' => e = .returned (.bool true) ∧ Below W.heap.size W w' := by
  clear _w0 _w1 _w2 _w3 _w4 _w5
  by_cases g : vS h w c = true ∧ ((0 ≤ y ∧ y < h) ∧ (0 ≤ x ∧ x < w) ∧ (0 ≤ z ∧ z < c))
  · obtain ⟨hv, k⟩ := g
    have HS : Hid (stR h w c = (w * c, c, 0)) := by unfold Hid stR; rw [hv, if_pos rfl]
    have HP : Hid (plR h w c y x z = ((y * w + x) * c + z, 0)) := plR_in hv k
    obtain ⟨⟨h1, h2⟩, ⟨w1, w2⟩, ⟨c1, c2⟩, q9⟩ := vS_yes hv
    obtain ⟨p1, p2⟩ := row_bd k.1.2 k.1.1 k.2.1.1 k.2.1.2
    obtain ⟨r1, r2⟩ := row_bd p2 (by omega : 0 ≤ y * w + x) k.2.2.1 k.2.2.2
    clear p1 p2
    obtain ⟨t1, t2⟩ := mul_bd w1 w2 c1 c2
    obtain ⟨p, hp⟩ : ∃ p, (y * w + x) * c + z = p := ⟨_, rfl⟩
    rw [hp] at HP r2
    have u1 : 0 ≤ p := by omega
    have u2 : p < 16384 := by omega
    clear r1 r2 q9
    have HX : Hid ((y + 1 < h ∧ plR h w c (y + 1) x z = (p + w * c, 0)) ∨ (¬ y + 1 < h ∧ plR h w c (y + 1) x z = (0, 3))) := by
      by_cases m : y + 1 < h
      · exact .inl ⟨m, next_row hv k hp m⟩
      · exact .inr ⟨m, plR_out hv (by omega)⟩
    have HY : Hid ((x + 1 < w ∧ plR h w c y (x + 1) z = (p + c, 0)) ∨ (¬ x + 1 < w ∧ plR h w c y (x + 1) z = (0, 3))) := by
      by_cases m : x + 1 < w
      · exact .inl ⟨m, next_col hv k hp m⟩
      · exact .inr ⟨m, plR_out hv (by omega)⟩
    have HZ : Hid ((z + 1 < c ∧ plR h w c y x (z + 1) = (p + 1, 0)) ∨ (¬ z + 1 < c ∧ plR h w c y x (z + 1) = (0, 3))) := by
      by_cases m : z + 1 < c
      · exact .inl ⟨m, next_chan hv k hp m⟩
      · exact .inr ⟨m, plR_out hv (by omega)⟩
    obtain ⟨⟨y1, y2⟩, ⟨x1, x2⟩, ⟨z1, z2⟩⟩ := k
    obtain ⟨r, hr⟩ : ∃ r, w * c = r := ⟨_, rfl⟩
    rw [hr] at HS HX t1 t2
    clear hr hp hv
    obtain ⟨a1, e1, HA⟩ : ∃ a e, Hid (plR h w c (y + 1) x z = (a, e)) := ⟨_, _, hid rfl⟩
    obtain ⟨a2, e2, HB⟩ : ∃ a e, Hid (plR h w c y (x + 1) z = (a, e)) := ⟨_, _, hid rfl⟩
    obtain ⟨a3, e3, HC⟩ : ∃ a e, Hid (plR h w c y x (z + 1) = (a, e)) := ⟨_, _, hid rfl⟩
    rw [HA.out] at HX
    rw [HB.out] at HY
    rw [HC.out] at HZ
    go_enter Try.func7, Try.ntmps7
    go_wp2_with fail
    refine (place_any _ _ _ _ _ _ _).mono ?_
    rintro e w1 ⟨rfl, hb'⟩
    have s1 := (St.start W).new.new.call hb'
    clear hb'
    try simp only [World.size_setCell] at s1
    try simp only [World.size_alloc] at s1
    obtain ⟨c1, f1, zw1_1, c2, f2, zw1_2, -⟩ := s1.rules
    rw [HP.out]
    go_wp2_with fail
    refine (strides_any _ _ _ _).mono ?_
    rintro e w2 ⟨rfl, hb'⟩
    have s2 := s1.call hb'
    clear hb' c1 f1 c2 f2
    try simp only [World.size_setCell] at s2
    try simp only [World.size_alloc] at s2
    obtain ⟨c1, f1, zw2_1, c2, f2, zw2_2, -⟩ := s2.rules
    rw [HS.out]
    go_wp2_with fail
    refine (fixed_any _).mono ?_
    rintro e w3 ⟨rfl, hb'⟩
    have s3 := s2.call hb'
    clear hb' c1 f1 c2 f2
    try simp only [World.size_setCell] at s3
    try simp only [World.size_alloc] at s3
    obtain ⟨c1, f1, zw3_1, c2, f2, zw3_2, -⟩ := s3.rules
    go_wp2_with fail
    refine (place_any _ _ _ _ _ _ _).mono ?_
    rintro e w4 ⟨rfl, hb'⟩
    have s4 := s3.call hb'
    clear hb' c1 f1 c2 f2
    try simp only [World.size_setCell] at s4
    try simp only [World.size_alloc] at s4
    obtain ⟨c1, f1, zw4_1, c2, f2, zw4_2, -⟩ := s4.rules
    rw [HA.out]
    go_wp2_with fail
    refine (place_any _ _ _ _ _ _ _).mono ?_
    rintro e w5 ⟨rfl, hb'⟩
    have s5 := s4.call hb'
    clear hb' c1 f1 c2 f2
    try simp only [World.size_setCell] at s5
    try simp only [World.size_alloc] at s5
    obtain ⟨c1, f1, zw5_1, c2, f2, zw5_2, -⟩ := s5.rules
    rw [HB.out]
    go_wp2_with fail
    refine (place_any _ _ _ _ _ _ _).mono ?_
    rintro e w6 ⟨rfl, hb'⟩
    have s6 := s5.call hb'
    clear hb' c1 f1 c2 f2
    try simp only [World.size_setCell] at s6
    try simp only [World.size_alloc] at s6
    obtain ⟨c1, f1, zw6_1, c2, f2, zw6_2, -⟩ := s6.rules
    rw [HC.out]
    clear HP HS HA HB HC
    rcases HX.out with ⟨m1, HA⟩ | ⟨m1, HA⟩ <;> rcases HY.out with ⟨m2, HB⟩ | ⟨m2, HB⟩ <;> rcases HZ.out with ⟨m3, HC⟩ | ⟨m3, HC⟩
    all_goals
      clear HX HY HZ
      cases HA
      cases HB
      cases HC
      go_wp2
      go_ret
      exact ⟨rfl, s6.below⟩
  · obtain ⟨e, he, he2⟩ := plR_err g
    have HP : Hid (plR h w c y x z = (0, e)) := he
    clear he g
    obtain ⟨a, b, f, hs⟩ : ∃ a b f, stR h w c = (a, b, f) := ⟨_, _, _, rfl⟩
    have HS : Hid (stR h w c = (a, b, f)) := hs
    clear hs
    have he3 : (e != 0) = true := by unfold bne; rw [he2]; rfl
    go_enter Try.func7, Try.ntmps7
    go_wp2_with fail
    refine (place_any _ _ _ _ _ _ _).mono ?_
    rintro e w1 ⟨rfl, hb'⟩
    have s1 := (St.start W).new.new.call hb'
    clear hb'
    try simp only [World.size_setCell] at s1
    try simp only [World.size_alloc] at s1
    obtain ⟨c1, f1, zw1_1, c2, f2, zw1_2, -⟩ := s1.rules
    rw [HP.out]
    go_wp2_with fail
    refine (strides_any _ _ _ _).mono ?_
    rintro e w2 ⟨rfl, hb'⟩
    have s2 := s1.call hb'
    clear hb' c1 f1 c2 f2
    try simp only [World.size_setCell] at s2
    try simp only [World.size_alloc] at s2
    obtain ⟨c1, f1, zw2_1, c2, f2, zw2_2, -⟩ := s2.rules
    rw [HS.out]
    go_wp2_with fail
    refine (fixed_any _).mono ?_
    rintro e w3 ⟨rfl, hb'⟩
    have s3 := s2.call hb'
    clear hb' c1 f1 c2 f2
    try simp only [World.size_setCell] at s3
    try simp only [World.size_alloc] at s3
    obtain ⟨c1, f1, zw3_1, c2, f2, zw3_2, -⟩ := s3.rules
    go_wp2_with fail
    refine (fixed_any _).mono ?_
    rintro e w4 ⟨rfl, hb'⟩
    have s4 := s3.call hb'
    clear hb' c1 f1 c2 f2
    try simp only [World.size_setCell] at s4
    try simp only [World.size_alloc] at s4
    obtain ⟨c1, f1, zw4_1, c2, f2, zw4_2, -⟩ := s4.rules
    go_wp2
    go_ret
    exact ⟨rfl, s4.below⟩
end Go.Proofs.Ytflgfafmpnngmaa
