/- What the document's Where returns, by search row by row; the walks of ShapeElems and ShapeWheres. -/
import Derived.Test.YtflgfafmpnngmaaShpD
namespace Go.Proofs.Ytflgfafmpnngmaa
open Go.ChangeShapes Go.WideShapes Go.ChangeAt Go.RowKit
theorem run_in {n a k y m : Int} (e : n = y * a + m) (h0 : 0 ≤ m) (h1 : m < a) (hk : k = a) : n / k = y ∧ n % k = m := by
  subst e hk
  constructor
  · rw [Int.add_comm, Int.add_mul_ediv_right _ _ (by omega), Int.ediv_eq_zero_of_lt h0 h1]; omega
  · rw [Int.add_comm, Int.add_mul_emod_self_right, Int.emod_eq_of_lt h0 h1]
theorem found {w c n y x m : Int} (e : n = y * (w * c) + (x * c + m)) (hx : 0 ≤ x) (h0 : 0 ≤ m) (h1 : m < c) (h2 : x * c + m < w * c) : n / c / w = y ∧ n / c % w = x ∧ n % c = m := by
  have e1 : n = (y * w + x) * c + m := by rw [e, Int.add_mul, Int.mul_assoc]; omega
  obtain ⟨a, b⟩ := run_in e1 h0 h1 rfl
  have h3 : x < w := by
    rcases Int.lt_or_le x w with g | g
    · exact g
    · have := Int.mul_le_mul_of_nonneg_right g (show 0 ≤ c by omega); omega
  obtain ⟨u, v⟩ := run_in (n := y * w + x) rfl hx h3 rfl
  rw [a]
  exact ⟨u, v, b⟩
set_option maxHeartbeats 4000000 in
theorem rwhere_any (h w c n : Int) (W : World) :
    Calls Try.prog 16 #[.agg #[.int .i64 h, .int .i64 w, .int .i64 c], .int .i64 n] W fun e w' => e = .returned (.tuple #[.int .i64 (whR h w c n).1, .int .i64 (whR h w c n).2.1, .int .i64 (whR h w c n).2.2.1, .int .i64 (whR h w c n).2.2.2]) ∧ Below W.heap.size W w' := by
  cases hv : vS h w c with
  | false =>
    rw [whR_bad hv]
    go_enter Try.func16, Try.ntmps16
    go_wp2_with fail
    refine (rvalid_any _ _ _ _).mono ?_
    rintro e w1 ⟨rfl, hb⟩
    have s1 := (St.start W).new.call hb
    clear hb
    go_wp2
    exact bodyPost_ret (v := .tuple #[.int .i64 0, .int .i64 0, .int .i64 0, .int .i64 50]) (by simp [results, Try.results16, go_sem]) rfl ⟨rfl, s1.below⟩
  | true =>
    have HV : Hid (vS h w c = true) := hv
    by_cases k1 : n < 0
    · rw [whR_out hv (by omega)]
      go_enter Try.func16, Try.ntmps16
      go_wp2_with fail
      refine (rvalid_any _ _ _ _).mono ?_
      rintro e w1 ⟨rfl, hb⟩
      have s1 := (St.start W).new.call hb
      clear hb
      go_wp2
      exact bodyPost_ret (v := .tuple #[.int .i64 0, .int .i64 0, .int .i64 0, .int .i64 3]) (by simp [results, Try.results16, go_sem]) rfl ⟨rfl, s1.below⟩
    by_cases k2 : h * w * c ≤ n
    · rw [whR_out hv (by omega)]
      go_enter Try.func16, Try.ntmps16
      go_wp2_with fail
      refine (rvalid_any _ _ _ _).mono ?_
      rintro e w1 ⟨rfl, hb'⟩
      have s1 := (St.start W).new.call hb'
      clear hb'
      try simp only [World.size_setCell] at s1
      try simp only [World.size_alloc] at s1
      obtain ⟨c1, f1, zw1_1, -⟩ := s1.rules
      go_wp2_with fail
      refine (relems_any _ _ _ _ HV.out).mono ?_
      rintro e w2 ⟨rfl, hb'⟩
      have s2 := s1.call hb'
      clear hb' c1 f1
      try simp only [World.size_setCell] at s2
      try simp only [World.size_alloc] at s2
      obtain ⟨c1, f1, zw2_1, -⟩ := s2.rules
      go_wp2
      exact bodyPost_ret (v := .tuple #[.int .i64 0, .int .i64 0, .int .i64 0, .int .i64 3]) (by simp [results, Try.results16, go_sem]) rfl ⟨rfl, s2.below⟩
    rw [whR_in hv (by omega)]
    obtain ⟨⟨h1, h2⟩, ⟨w1, w2⟩, ⟨c1, c2⟩, q9⟩ := vS_yes hv
    obtain ⟨p1, p2⟩ := mul_bd w1 w2 c1 c2
    obtain ⟨p, hp⟩ : ∃ p, w * c = p := ⟨_, rfl⟩
    rw [hp] at p1 p2
    obtain ⟨q, hq⟩ : ∃ q, h * w * c = q := ⟨_, rfl⟩
    rw [hq] at k2 q9
    have HP : Hid (w * c = p) := hp
    go_enter Try.func16, Try.ntmps16
    go_wp2_with fail
    refine (rvalid_any _ _ _ _).mono ?_
    rintro e w1 ⟨rfl, hb'⟩
    have s1 := (St.start W).new.call hb'
    clear hb'
    try simp only [World.size_setCell] at s1
    try simp only [World.size_alloc] at s1
    obtain ⟨c1, f1, zw1_1, -⟩ := s1.rules
    go_wp2_with fail
    refine (relems_any _ _ _ _ HV.out).mono ?_
    rintro e w2 ⟨rfl, hb'⟩
    have s2 := s1.call hb'
    clear hb' c1 f1
    try simp only [World.size_setCell] at s2
    try simp only [World.size_alloc] at s2
    obtain ⟨c1, f1, zw2_1, -⟩ := s2.rules
    rw [hq]
    clear hq
    go_wp2
    go_loop [1, 8] (fun at' y' => ∃ k m : Int, at' = .int .i64 m ∧ y' = .int .i64 k ∧ n = k * p + m ∧ 0 ≤ k ∧ 0 ≤ m ∧ k + m ≤ n) (fun at' _ => (intOf at').toNat)
    case atStart => exact ⟨0, n, rfl, rfl, by omega, by omega, by omega, by omega⟩
    case round =>
      obtain ⟨k, m, rfl, rfl, he, m0, m1, m2⟩ := hrel
      have HN : Hid (n = k * p + m) := he
      clear he
      by_cases k3 : p ≤ m
      · go_wp2
        go_round
        case rel => exact ⟨k + 1, m - p, rfl, rfl, by rw [HN.out, Int.add_mul]; omega, by omega, by omega, by omega⟩
        case measure => simp [intOf]; omega
      · go_wp2
        go_loop [1, 9] (fun at' x' => ∃ x r : Int, at' = .int .i64 r ∧ x' = .int .i64 x ∧ m = x * c + r ∧ 0 ≤ x ∧ 0 ≤ r ∧ x + r ≤ m) (fun at' _ => (intOf at').toNat)
        case atStart => exact ⟨0, m, rfl, rfl, by omega, by omega, by omega, by omega⟩
        case round =>
          obtain ⟨x, r, rfl, rfl, he, r0, r1, r2⟩ := hrel
          have HM : Hid (m = x * c + r) := he
          clear he
          by_cases k4 : c ≤ r
          · go_wp2
            go_round
            case rel => exact ⟨x + 1, r - c, rfl, rfl, by rw [HM.out, Int.add_mul]; omega, by omega, by omega, by omega⟩
            case measure => simp [intOf]; omega
          · have HA : Hid (n / c / w = k ∧ n / c % w = x ∧ n % c = r) := found (w := w) (c := c) (n := n) (y := k) (x := x) (m := r) (by rw [HP.out, ← HM.out]; exact HN.out) r0 r1 (by omega) (by rw [HP.out, ← HM.out]; omega)
            go_wp2
            exact bodyPost_ret (v := .tuple #[.int .i64 k, .int .i64 x, .int .i64 r, .int .i64 0]) (by simp [results, Try.results16, go_sem]) rfl ⟨by rw [HA.out.1, HA.out.2.1, HA.out.2.2], s2.below⟩
theorem shapeWheres_walk (h w c n : Int) (W : World) (_w0 : (Lit.int .i64 h).wf = true) (_w1 : (Lit.int .i64 w).wf = true) (_w2 : (Lit.int .i64 c).wf = true) (_w3 : (Lit.int .i64 n).wf = true) :
    Calls Try.prog 5 #[.agg #[.int .i64 h, .int .i64 w, .int .i64 c], .int .i64 n] W fun e w' => e = .returned (.bool true) ∧ Below W.heap.size W w' := by
  clear _w0 _w1 _w2 _w3
  go_enter Try.func5, Try.ntmps5
  go_wp2_with fail
  refine (where_any _ _ _ _ _).mono ?_
  rintro e w1 ⟨rfl, hb'⟩
  have s1 := (St.start W).new.call hb'
  clear hb'
  try simp only [World.size_setCell] at s1
  try simp only [World.size_alloc] at s1
  obtain ⟨c1, f1, zw1_1, -⟩ := s1.rules
  go_wp2_with fail
  refine (rwhere_any _ _ _ _ _).mono ?_
  rintro e w2 ⟨rfl, hb'⟩
  have s2 := s1.call hb'
  clear hb' c1 f1
  try simp only [World.size_setCell] at s2
  try simp only [World.size_alloc] at s2
  obtain ⟨c1, f1, zw2_1, -⟩ := s2.rules
  go_wp2_with fail
  refine (fixed_any _).mono ?_
  rintro e w3 ⟨rfl, hb'⟩
  have s3 := s2.call hb'
  clear hb' c1 f1
  try simp only [World.size_setCell] at s3
  try simp only [World.size_alloc] at s3
  obtain ⟨c1, f1, zw3_1, -⟩ := s3.rules
  go_wp2
  go_ret
  exact ⟨rfl, s3.below⟩
theorem shapeElems_walk (h w c : Int) (W : World) (_w0 : (Lit.int .i64 h).wf = true) (_w1 : (Lit.int .i64 w).wf = true) (_w2 : (Lit.int .i64 c).wf = true) :
    Calls Try.prog 3 #[.agg #[.int .i64 h, .int .i64 w, .int .i64 c]] W fun e w' => e = .returned (.bool true) ∧ Below W.heap.size W w' := by
  clear _w0 _w1 _w2
  cases hv : vS h w c with
  | false =>
    have HE : Hid (elR h w c = (0, 50)) := elR_no hv
    have HS : Hid (stR h w c = (0, 0, 50)) := by unfold Hid stR; rw [hv, if_neg Bool.false_ne_true]
    go_enter Try.func3, Try.ntmps3
    go_wp2_with fail
    refine (selems_any _ _ _ _).mono ?_
    rintro e w1 ⟨rfl, hb'⟩
    have s1 := (St.start W).new.call hb'
    clear hb'
    try simp only [World.size_setCell] at s1
    try simp only [World.size_alloc] at s1
    obtain ⟨c1, f1, zw1_1, -⟩ := s1.rules
    rw [HE.out]
    go_wp2_with fail
    refine (strides_any _ _ _ _).mono ?_
    rintro e w2 ⟨rfl, hb'⟩
    have s2 := s1.call hb'
    clear hb' c1 f1
    try simp only [World.size_setCell] at s2
    try simp only [World.size_alloc] at s2
    obtain ⟨c1, f1, zw2_1, -⟩ := s2.rules
    rw [HS.out]
    go_wp2_with fail
    refine (fixed_any _).mono ?_
    rintro e w3 ⟨rfl, hb'⟩
    have s3 := s2.call hb'
    clear hb' c1 f1
    try simp only [World.size_setCell] at s3
    try simp only [World.size_alloc] at s3
    obtain ⟨c1, f1, zw3_1, -⟩ := s3.rules
    go_wp2_with fail
    refine (rvalid_any _ _ _ _).mono ?_
    rintro e w4 ⟨rfl, hb'⟩
    have s4 := s3.call hb'
    clear hb' c1 f1
    try simp only [World.size_setCell] at s4
    try simp only [World.size_alloc] at s4
    obtain ⟨c1, f1, zw4_1, -⟩ := s4.rules
    go_wp2_with fail
    refine (fixed_any _).mono ?_
    rintro e w5 ⟨rfl, hb'⟩
    have s5 := s4.call hb'
    clear hb' c1 f1
    try simp only [World.size_setCell] at s5
    try simp only [World.size_alloc] at s5
    obtain ⟨c1, f1, zw5_1, -⟩ := s5.rules
    go_wp2
    go_ret
    exact ⟨rfl, s5.below⟩
  | true =>
    have HE : Hid (elR h w c = (h * w * c, 0)) := elR_ok hv
    have HS : Hid (stR h w c = (w * c, c, 0)) := by unfold Hid stR; rw [hv, if_pos rfl]
    have HV : Hid (vS h w c = true) := hv
    obtain ⟨⟨h1, h2⟩, ⟨w1, w2⟩, ⟨c1, c2⟩, q9⟩ := vS_yes hv
    obtain ⟨p1, p2⟩ := mul_bd w1 w2 c1 c2
    clear q9
    obtain ⟨p, hp⟩ : ∃ p, w * c = p := ⟨_, rfl⟩
    rw [hp] at p1 p2 HS
    obtain ⟨q, hq⟩ : ∃ q, h * w * c = q := ⟨_, rfl⟩
    rw [hq] at HE
    have HQ : Hid (h * w * c = q) := hq
    clear hq
    go_enter Try.func3, Try.ntmps3
    go_wp2_with fail
    refine (selems_any _ _ _ _).mono ?_
    rintro e w1 ⟨rfl, hb'⟩
    have s1 := (St.start W).new.call hb'
    clear hb'
    try simp only [World.size_setCell] at s1
    try simp only [World.size_alloc] at s1
    obtain ⟨c1, f1, zw1_1, -⟩ := s1.rules
    rw [HE.out]
    go_wp2_with fail
    refine (strides_any _ _ _ _).mono ?_
    rintro e w2 ⟨rfl, hb'⟩
    have s2 := s1.call hb'
    clear hb' c1 f1
    try simp only [World.size_setCell] at s2
    try simp only [World.size_alloc] at s2
    obtain ⟨c1, f1, zw2_1, -⟩ := s2.rules
    rw [HS.out]
    go_wp2_with fail
    refine (fixed_any _).mono ?_
    rintro e w3 ⟨rfl, hb'⟩
    have s3 := s2.call hb'
    clear hb' c1 f1
    try simp only [World.size_setCell] at s3
    try simp only [World.size_alloc] at s3
    obtain ⟨c1, f1, zw3_1, -⟩ := s3.rules
    go_wp2_with fail
    refine (rvalid_any _ _ _ _).mono ?_
    rintro e w4 ⟨rfl, hb'⟩
    have s4 := s3.call hb'
    clear hb' c1 f1
    try simp only [World.size_setCell] at s4
    try simp only [World.size_alloc] at s4
    obtain ⟨c1, f1, zw4_1, -⟩ := s4.rules
    go_wp2_with fail
    refine (relems_any _ _ _ _ HV.out).mono ?_
    rintro e w5 ⟨rfl, hb'⟩
    have s5 := s4.call hb'
    clear hb' c1 f1
    try simp only [World.size_setCell] at s5
    try simp only [World.size_alloc] at s5
    obtain ⟨c1, f1, zw5_1, -⟩ := s5.rules
    rw [HQ.out]
    go_wp2
    go_ret
    exact ⟨rfl, s5.below⟩
end Go.Proofs.Ytflgfafmpnngmaa
