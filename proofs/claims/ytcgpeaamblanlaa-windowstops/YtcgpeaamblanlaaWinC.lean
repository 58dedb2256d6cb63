/- What corner of package window, and the document's Has, return: each for every argument. -/
import Derived.Test.YtcgpeaamblanlaaWinB
namespace Go.Proofs.Ytcgpeaamblanlaa
open Go.ChangeShapes Go.WideShapes Go.ChangeAt Go.RowKit
theorem drewN_below (w : World) (n : Nat) : Below w.heap.size w (w.drewN n) := below_drewN (Below.refl _ _) n
theorem coR_bad {h w c kh kw sh sw tp lf bt rt n e : Int} (he : ouR h w c kh kw sh sw tp lf bt rt = (0, 0, e)) (h2 : e ≠ 0) : coR h w c kh kw sh sw tp lf bt rt n = (0, 0, e) := by unfold coR; rw [he, if_neg (by simpa using h2)]
theorem coR_out {h w c kh kw sh sw tp lf bt rt n r q : Int} (he : ouR h w c kh kw sh sw tp lf bt rt = (r, q, 0)) (hn : ¬ (0 ≤ n ∧ n < r * q)) : coR h w c kh kw sh sw tp lf bt rt n = (0, 0, 3) := by unfold coR; rw [he, if_pos rfl, if_neg hn]
theorem coR_in {h w c kh kw sh sw tp lf bt rt n r q : Int} (he : ouR h w c kh kw sh sw tp lf bt rt = (r, q, 0)) (hn : 0 ≤ n ∧ n < r * q) : coR h w c kh kw sh sw tp lf bt rt n = (n / q * sh - tp, n % q * sw - lf, 0) := by unfold coR; rw [he, if_pos rfl, if_pos hn]
set_option maxHeartbeats 4000000 in
theorem corner_any (h w c kh kw sh sw tp lf bt rt n : Int) (W : World) :
    Calls Try.prog 27 #[.agg #[.int .i64 h, .int .i64 w, .int .i64 c], .agg #[.int .i64 kh, .int .i64 kw, .int .i64 sh, .int .i64 sw, .int .i64 tp, .int .i64 lf, .int .i64 bt, .int .i64 rt], .int .i64 n] W fun e w' => e = .returned (.tuple #[.int .i64 (coR h w c kh kw sh sw tp lf bt rt n).1, .int .i64 (coR h w c kh kw sh sw tp lf bt rt n).2.1, .int .i64 (coR h w c kh kw sh sw tp lf bt rt n).2.2]) ∧ Below W.heap.size W w' := by
  rcases ouR_cases h w c kh kw sh sw tp lf bt rt with ⟨e, he, h2⟩ | ⟨r, q, he, hf⟩
  · rw [coR_bad he (by omega)]
    have HO : Hid (ouR h w c kh kw sh sw tp lf bt rt = (0, 0, e)) := he
    clear he
    rcases h2 with rfl | rfl
    · go_enter Try.func27, Try.ntmps27
      go_wp2_with fail
      refine (out_any _ _ _ _ _ _ _ _ _ _ _ _).mono ?_
      rintro e w1 ⟨rfl, hb'⟩
      have s1 := (St.start W).new.new.call hb'
      clear hb'
      try simp only [World.size_setCell] at s1
      try simp only [World.size_alloc] at s1
      obtain ⟨c1, f1, zw1_1, c2, f2, zw1_2, -⟩ := s1.rules
      rw [HO.out]
      go_wp2
      go_ret3
      exact ⟨rfl, s1.below⟩
    · go_enter Try.func27, Try.ntmps27
      go_wp2_with fail
      refine (out_any _ _ _ _ _ _ _ _ _ _ _ _).mono ?_
      rintro e w1 ⟨rfl, hb'⟩
      have s1 := (St.start W).new.new.call hb'
      clear hb'
      try simp only [World.size_setCell] at s1
      try simp only [World.size_alloc] at s1
      obtain ⟨c1, f1, zw1_1, c2, f2, zw1_2, -⟩ := s1.rules
      rw [HO.out]
      go_wp2
      go_ret3
      exact ⟨rfl, s1.below⟩
  · obtain ⟨⟨h1, v1, q9⟩, ⟨k1, k2, k3, k4, k5, k6, k7, k8⟩, r1, q1, z1, z2⟩ := hf
    obtain ⟨m1, m2⟩ := mul_bd r1.1 r1.2 q1.1 q1.2
    have HO : Hid (ouR h w c kh kw sh sw tp lf bt rt = (r, q, 0)) := he
    clear he z1 z2 q9
    obtain ⟨m, hm⟩ : ∃ m, r * q = m := ⟨_, rfl⟩
    have HM : Hid (r * q = m) := hm
    rw [hm] at m1 m2
    by_cases n1 : n < 0
    · rw [coR_out HO.out (by omega)]
      clear hm
      go_enter Try.func27, Try.ntmps27
      go_wp2_with fail
      refine (out_any _ _ _ _ _ _ _ _ _ _ _ _).mono ?_
      rintro e w1 ⟨rfl, hb'⟩
      have s1 := (St.start W).new.new.call hb'
      clear hb'
      try simp only [World.size_setCell] at s1
      try simp only [World.size_alloc] at s1
      obtain ⟨c1, f1, zw1_1, c2, f2, zw1_2, -⟩ := s1.rules
      rw [HO.out]
      go_wp2
      go_ret3
      exact ⟨rfl, s1.below⟩
    by_cases n2 : m ≤ n
    · rw [coR_out HO.out (by omega)]
      go_enter Try.func27, Try.ntmps27
      go_wp2_with fail
      refine (out_any _ _ _ _ _ _ _ _ _ _ _ _).mono ?_
      rintro e w1 ⟨rfl, hb'⟩
      have s1 := (St.start W).new.new.call hb'
      clear hb'
      try simp only [World.size_setCell] at s1
      try simp only [World.size_alloc] at s1
      obtain ⟨c1, f1, zw1_1, c2, f2, zw1_2, -⟩ := s1.rules
      rw [HO.out]
      go_wp2
      go_ret3
      exact ⟨rfl, s1.below⟩
    rw [coR_in HO.out (by omega)]
    have a1 := Int.ediv_nonneg (show 0 ≤ n by omega) (show 0 ≤ q by omega)
    have a2 : n / q < r := Int.ediv_lt_of_lt_mul (by omega) (by omega)
    have b1 := Int.emod_nonneg n (show q ≠ 0 by omega)
    have b2 := Int.emod_lt_of_pos n (show 0 < q by omega)
    have t1 := td (c := q) (show 0 ≤ n by omega)
    have t2 := tm (c := q) (show 0 ≤ n by omega)
    obtain ⟨d, hd⟩ : ∃ d, n / q = d := ⟨_, rfl⟩
    obtain ⟨u, hu⟩ : ∃ u, n % q = u := ⟨_, rfl⟩
    rw [hd] at a1 a2 t1
    rw [hu] at b1 b2 t2
    rw [hd, hu]
    clear hd hu
    have c1 := Int.mul_le_mul (show d ≤ 1200 by omega) k3.2 (by omega) (by omega)
    have c2 := Int.mul_le_mul (show u ≤ 1200 by omega) k4.2 (by omega) (by omega)
    have c3 := Int.mul_nonneg a1 (show 0 ≤ sh by omega)
    have c4 := Int.mul_nonneg b1 (show 0 ≤ sw by omega)
    obtain ⟨p, hp⟩ : ∃ p, d * sh = p := ⟨_, rfl⟩
    obtain ⟨v, hv⟩ : ∃ v, u * sw = v := ⟨_, rfl⟩
    rw [hp] at c1 c3
    rw [hv] at c2 c4
    rw [hp, hv]
    have q0 : ¬ q = 0 := by omega
    go_enter Try.func27, Try.ntmps27
    go_wp2_with fail
    refine (out_any _ _ _ _ _ _ _ _ _ _ _ _).mono ?_
    rintro e w1 ⟨rfl, hb'⟩
    have s1 := (St.start W).new.new.call hb'
    clear hb'
    try simp only [World.size_setCell] at s1
    try simp only [World.size_alloc] at s1
    obtain ⟨c1, f1, zw1_1, c2, f2, zw1_2, -⟩ := s1.rules
    rw [HO.out]
    go_wp2
    go_quiet (fail)
    go_wp2
    go_ret3
    exact ⟨rfl, s1.below.trans ((drewN_below _ _).mono s1.below.size)⟩
set_option maxHeartbeats 4000000 in
theorem has_any (h w c kh kw sh sw tp lf bt rt n : Int) (W : World) :
    Calls Try.prog 16 #[.agg #[.int .i64 h, .int .i64 w, .int .i64 c], .agg #[.int .i64 kh, .int .i64 kw, .int .i64 sh, .int .i64 sw, .int .i64 tp, .int .i64 lf, .int .i64 bt, .int .i64 rt], .int .i64 n] W fun e w' => e = .returned (.int .i64 (coR h w c kh kw sh sw tp lf bt rt n).2.2) ∧ Below W.heap.size W w' := by
  rcases ouR_cases h w c kh kw sh sw tp lf bt rt with ⟨e, he, h2⟩ | ⟨r, q, he, hf⟩
  · rw [coR_bad he (by omega)]
    have HO : Hid (ouR h w c kh kw sh sw tp lf bt rt = (0, 0, e)) := he
    clear he
    rcases h2 with rfl | rfl
    · go_enter Try.func16, Try.ntmps16
      go_wp2_with fail
      refine (rout_any _ _ _ _ _ _ _ _ _ _ _ _).mono ?_
      rintro e w1 ⟨rfl, hb'⟩
      have s1 := (St.start W).new.new.call hb'
      clear hb'
      try simp only [World.size_setCell] at s1
      try simp only [World.size_alloc] at s1
      obtain ⟨c1, f1, zw1_1, c2, f2, zw1_2, -⟩ := s1.rules
      rw [HO.out]
      go_wp2
      go_ret
      exact ⟨rfl, s1.below⟩
    · go_enter Try.func16, Try.ntmps16
      go_wp2_with fail
      refine (rout_any _ _ _ _ _ _ _ _ _ _ _ _).mono ?_
      rintro e w1 ⟨rfl, hb'⟩
      have s1 := (St.start W).new.new.call hb'
      clear hb'
      try simp only [World.size_setCell] at s1
      try simp only [World.size_alloc] at s1
      obtain ⟨c1, f1, zw1_1, c2, f2, zw1_2, -⟩ := s1.rules
      rw [HO.out]
      go_wp2
      go_ret
      exact ⟨rfl, s1.below⟩
  · obtain ⟨⟨h1, v1, q9⟩, ⟨k1, k2, k3, k4, k5, k6, k7, k8⟩, r1, q1, z1, z2⟩ := hf
    obtain ⟨m1, m2⟩ := mul_bd r1.1 r1.2 q1.1 q1.2
    have HO : Hid (ouR h w c kh kw sh sw tp lf bt rt = (r, q, 0)) := he
    clear he z1 z2 q9
    obtain ⟨m, hm⟩ : ∃ m, r * q = m := ⟨_, rfl⟩
    rw [hm] at m1 m2
    by_cases n1 : n < 0
    · rw [coR_out HO.out (by omega)]
      clear hm
      go_enter Try.func16, Try.ntmps16
      go_wp2_with fail
      refine (rout_any _ _ _ _ _ _ _ _ _ _ _ _).mono ?_
      rintro e w1 ⟨rfl, hb'⟩
      have s1 := (St.start W).new.new.call hb'
      clear hb'
      try simp only [World.size_setCell] at s1
      try simp only [World.size_alloc] at s1
      obtain ⟨c1, f1, zw1_1, c2, f2, zw1_2, -⟩ := s1.rules
      rw [HO.out]
      go_wp2
      go_ret
      exact ⟨rfl, s1.below⟩
    by_cases n2 : m ≤ n
    · rw [coR_out HO.out (by omega)]
      go_enter Try.func16, Try.ntmps16
      go_wp2_with fail
      refine (rout_any _ _ _ _ _ _ _ _ _ _ _ _).mono ?_
      rintro e w1 ⟨rfl, hb'⟩
      have s1 := (St.start W).new.new.call hb'
      clear hb'
      try simp only [World.size_setCell] at s1
      try simp only [World.size_alloc] at s1
      obtain ⟨c1, f1, zw1_1, c2, f2, zw1_2, -⟩ := s1.rules
      rw [HO.out]
      go_wp2
      go_ret
      exact ⟨rfl, s1.below⟩
    rw [coR_in HO.out (by omega)]
    go_enter Try.func16, Try.ntmps16
    go_wp2_with fail
    refine (rout_any _ _ _ _ _ _ _ _ _ _ _ _).mono ?_
    rintro e w1 ⟨rfl, hb'⟩
    have s1 := (St.start W).new.new.call hb'
    clear hb'
    try simp only [World.size_setCell] at s1
    try simp only [World.size_alloc] at s1
    obtain ⟨c1, f1, zw1_1, c2, f2, zw1_2, -⟩ := s1.rules
    rw [HO.out]
    go_wp2
    go_ret
    exact ⟨rfl, s1.below⟩
end Go.Proofs.Ytcgpeaamblanlaa
