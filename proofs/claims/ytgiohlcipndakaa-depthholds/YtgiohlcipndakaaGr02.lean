/- What Valid, Out, corner and place of package window, and the document's answers to them, return: each for every argument. What Out, corner and place of package window, and the document's Out and Has, return: each for every argument. -/
import Derived.Test.YtgiohlcipndakaaGr01
import Derived.WalkSmall
/- What Valid, Out, corner and place of package window, and the document's answers to them, return: each for every argument. -/
namespace Go.Proofs.Ytgiohlcipndakaa
open Go.ChangeShapes Go.WideShapes Go.ChangeAt Go.RowKit
theorem td {n c : Int} (hn : 0 ≤ n) : n.tdiv c = n / c := Int.tdiv_eq_ediv_of_nonneg hn
theorem tm {n c : Int} (hn : 0 ≤ n) : n.tmod c = n % c := Int.tmod_eq_emod_of_nonneg hn
theorem btw_any (n lo hi : Int) (W : World) :
    Calls Try.prog 94 #[.int .i64 n, .int .i64 lo, .int .i64 hi] W fun e w' => e = .returned (.bool (btw n lo hi)) ∧ w' = W := by
  by_cases k1 : lo ≤ n
  · have HR : Hid (decide (n ≤ hi) = btw n lo hi) := by unfold Hid btw; simp [k1]
    go_enter Try.func94, Try.ntmps94
    go_wp2
    go_ret
    exact ⟨retB HR.out, rfl⟩
  · have HR : Hid (false = btw n lo hi) := by unfold Hid btw; simp [k1]
    go_enter Try.func94, Try.ntmps94
    go_wp2
    go_ret
    exact ⟨retB HR.out, rfl⟩
set_option maxHeartbeats 4000000 in
theorem wvalid_any (kh kw sh sw tp lf bt rt : Int) (W : World) :
    Calls Try.prog 90 #[.agg #[.int .i64 kh, .int .i64 kw, .int .i64 sh, .int .i64 sw, .int .i64 tp, .int .i64 lf, .int .i64 bt, .int .i64 rt]] W fun e w' => e = .returned (.bool (vW kh kw sh sw tp lf bt rt)) ∧ Below W.heap.size W w' := by
  have S := (St.start W).new (c := #[.int .i64 kh, .int .i64 kw, .int .i64 sh, .int .i64 sw, .int .i64 tp, .int .i64 lf, .int .i64 bt, .int .i64 rt]) (t := 53)
  cases k1 : btw kh 1 32 with
  | false =>
    have HR : Hid (false = vW kh kw sh sw tp lf bt rt) := by unfold Hid vW; simp [*]
    go_enter Try.func90, Try.ntmps90
    iterate 1 (go_wp2_with fail; refine (btw_any _ _ _ _).mono ?_; rintro e w1 ⟨rfl, rfl⟩)
    go_wp2
    go_ret
    exact ⟨retB HR.out, S.below⟩
  | true =>
  have y1 := btw_yes k1
  cases k2 : btw kw 1 32 with
  | false =>
    have HR : Hid (false = vW kh kw sh sw tp lf bt rt) := by unfold Hid vW; simp [*]
    go_enter Try.func90, Try.ntmps90
    iterate 2 (go_wp2_with fail; refine (btw_any _ _ _ _).mono ?_; rintro e w1 ⟨rfl, rfl⟩)
    go_wp2
    go_ret
    exact ⟨retB HR.out, S.below⟩
  | true =>
  have y2 := btw_yes k2
  cases k3 : btw sh 1 32 with
  | false =>
    have HR : Hid (false = vW kh kw sh sw tp lf bt rt) := by unfold Hid vW; simp [*]
    go_enter Try.func90, Try.ntmps90
    iterate 3 (go_wp2_with fail; refine (btw_any _ _ _ _).mono ?_; rintro e w1 ⟨rfl, rfl⟩)
    go_wp2
    go_ret
    exact ⟨retB HR.out, S.below⟩
  | true =>
  have y3 := btw_yes k3
  cases k4 : btw sw 1 32 with
  | false =>
    have HR : Hid (false = vW kh kw sh sw tp lf bt rt) := by unfold Hid vW; simp [*]
    go_enter Try.func90, Try.ntmps90
    iterate 4 (go_wp2_with fail; refine (btw_any _ _ _ _).mono ?_; rintro e w1 ⟨rfl, rfl⟩)
    go_wp2
    go_ret
    exact ⟨retB HR.out, S.below⟩
  | true =>
  have y4 := btw_yes k4
  cases k5 : btw tp 0 (kh - 1) with
  | false =>
    have HR : Hid (false = vW kh kw sh sw tp lf bt rt) := by unfold Hid vW; simp [*]
    go_enter Try.func90, Try.ntmps90
    iterate 5 (go_wp2_with fail; refine (btw_any _ _ _ _).mono ?_; rintro e w1 ⟨rfl, rfl⟩)
    go_wp2
    go_ret
    exact ⟨retB HR.out, S.below⟩
  | true =>
  have y5 := btw_yes k5
  cases k6 : btw bt 0 (kh - 1) with
  | false =>
    have HR : Hid (false = vW kh kw sh sw tp lf bt rt) := by unfold Hid vW; simp [*]
    go_enter Try.func90, Try.ntmps90
    iterate 6 (go_wp2_with fail; refine (btw_any _ _ _ _).mono ?_; rintro e w1 ⟨rfl, rfl⟩)
    go_wp2
    go_ret
    exact ⟨retB HR.out, S.below⟩
  | true =>
  have y6 := btw_yes k6
  cases k7 : btw lf 0 (kw - 1) with
  | false =>
    have HR : Hid (false = vW kh kw sh sw tp lf bt rt) := by unfold Hid vW; simp [*]
    go_enter Try.func90, Try.ntmps90
    iterate 7 (go_wp2_with fail; refine (btw_any _ _ _ _).mono ?_; rintro e w1 ⟨rfl, rfl⟩)
    go_wp2
    go_ret
    exact ⟨retB HR.out, S.below⟩
  | true =>
  have y7 := btw_yes k7
  have HR : Hid (btw rt 0 (kw - 1) = vW kh kw sh sw tp lf bt rt) := by unfold Hid vW; simp [*]
  go_enter Try.func90, Try.ntmps90
  iterate 8 (go_wp2_with fail; refine (btw_any _ _ _ _).mono ?_; rintro e w1 ⟨rfl, rfl⟩)
  go_wp2
  go_ret
  exact ⟨retB HR.out, S.below⟩
theorem stops_any (n k s : Int) (W : World) (hn : 0 ≤ n ∧ n ≤ 4000) (hk : 1 ≤ k ∧ k ≤ 32) (hs : 1 ≤ s ∧ s ≤ 32) :
    Calls Try.prog 91 #[.int .i64 n, .int .i64 k, .int .i64 s] W fun e w' => e = .returned (.int .i64 (sp n k s)) ∧ w' = W := by
  by_cases h : n < k
  · rw [sp_no h]
    go_enter Try.func91, Try.ntmps91
    go_wp2
    go_ret
    exact ⟨rfl, rfl⟩
  · rw [sp_ok h]
    have t1 := td (c := s) (show 0 ≤ n - k by omega)
    have h1 := Int.ediv_nonneg (show 0 ≤ n - k by omega) (show 0 ≤ s by omega)
    have h2 := Int.ediv_le_self s (show 0 ≤ n - k by omega)
    obtain ⟨d, hd⟩ : ∃ d, (n - k) / s = d := ⟨_, rfl⟩
    rw [hd] at t1 h1 h2 
    rw [hd]
    clear hd
    go_enter Try.func91, Try.ntmps91
    go_wp2
    go_ret
    exact ⟨rfl, rfl⟩
end Go.Proofs.Ytgiohlcipndakaa

/- What Out, corner and place of package window, and the document's Out and Has, return: each for every argument. -/
namespace Go.Proofs.Ytgiohlcipndakaa
open Go.ChangeShapes Go.WideShapes Go.ChangeAt Go.RowKit
set_option maxHeartbeats 4000000 in
theorem out_any (h w c kh kw sh sw tp lf bt rt : Int) (W : World) :
    Calls Try.prog 83 #[.agg #[.int .i64 h, .int .i64 w, .int .i64 c], .agg #[.int .i64 kh, .int .i64 kw, .int .i64 sh, .int .i64 sw, .int .i64 tp, .int .i64 lf, .int .i64 bt, .int .i64 rt]] W fun e w' => e = .returned (.tuple #[.int .i64 (ouR h w c kh kw sh sw tp lf bt rt).1, .int .i64 (ouR h w c kh kw sh sw tp lf bt rt).2.1, .int .i64 (ouR h w c kh kw sh sw tp lf bt rt).2.2]) ∧ Below W.heap.size W w' := by
  cases g : vS h w c with
  | false =>
    have HE : Hid (elR h w c = (0, 50)) := elR_no g
    rw [ouR_shape g]
    clear g
    go_enter Try.func83, Try.ntmps83
    go_wp2_with fail
    refine (selems_any _ _ _ _).mono ?_
    rintro e w1 ⟨rfl, hb'⟩
    have s1 := (St.start W).new.new.call hb'
    clear hb'
    try simp only [World.size_setCell] at s1
    try simp only [World.size_alloc] at s1
    obtain ⟨c1, f1, zw1_1, c2, f2, zw1_2, -⟩ := s1.rules
    rw [HE.out]
    go_wp2
    go_ret3
    exact ⟨rfl, s1.below⟩
  | true =>
    have HE : Hid (elR h w c = (h * w * c, 0)) := elR_ok g
    obtain ⟨q, hq⟩ : ∃ q, h * w * c = q := ⟨_, rfl⟩
    rw [hq] at HE
    clear hq
    cases k : vW kh kw sh sw tp lf bt rt with
    | false =>
      rw [ouR_win g k]
      clear g
      go_enter Try.func83, Try.ntmps83
      go_wp2_with fail
      refine (selems_any _ _ _ _).mono ?_
      rintro e w1 ⟨rfl, hb'⟩
      have s1 := (St.start W).new.new.call hb'
      clear hb'
      try simp only [World.size_setCell] at s1
      try simp only [World.size_alloc] at s1
      obtain ⟨c1, f1, zw1_1, c2, f2, zw1_2, -⟩ := s1.rules
      rw [HE.out]
      go_wp2_with fail
      refine (wvalid_any _ _ _ _ _ _ _ _ _).mono ?_
      rintro e w2 ⟨rfl, hb'⟩
      have s2 := s1.call hb'
      clear hb' c1 f1 c2 f2
      try simp only [World.size_setCell] at s2
      try simp only [World.size_alloc] at s2
      obtain ⟨c1, f1, zw2_1, c2, f2, zw2_2, -⟩ := s2.rules
      go_wp2
      go_ret3
      exact ⟨rfl, s2.below⟩
    | true =>
      obtain ⟨h1, v1, c1, -⟩ := vS_yes g
      obtain ⟨k1, k2, k3, k4, k5, k6, k7, k8⟩ := vW_yes k
      by_cases z : sp (tp + h + bt) kh sh = 0 ∨ sp (lf + w + rt) kw sw = 0
      · rw [ouR_out g k z]
        clear g
        obtain ⟨r, hr⟩ : ∃ r, sp (tp + h + bt) kh sh = r := ⟨_, rfl⟩
        obtain ⟨t, ht⟩ : ∃ t, sp (lf + w + rt) kw sw = t := ⟨_, rfl⟩
        have HR : Hid (sp (tp + h + bt) kh sh = r) := hr
        have HT : Hid (sp (lf + w + rt) kw sw = t) := ht
        rw [hr, ht] at z
        clear hr ht
        by_cases z1 : r = 0
        · go_enter Try.func83, Try.ntmps83
          go_wp2_with fail
          refine (selems_any _ _ _ _).mono ?_
          rintro e w1 ⟨rfl, hb'⟩
          have s1 := (St.start W).new.new.call hb'
          clear hb'
          try simp only [World.size_setCell] at s1
          try simp only [World.size_alloc] at s1
          obtain ⟨c1, f1, zw1_1, c2, f2, zw1_2, -⟩ := s1.rules
          rw [HE.out]
          go_wp2_with fail
          refine (wvalid_any _ _ _ _ _ _ _ _ _).mono ?_
          rintro e w2 ⟨rfl, hb'⟩
          have s2 := s1.call hb'
          clear hb' c1 f1 c2 f2
          try simp only [World.size_setCell] at s2
          try simp only [World.size_alloc] at s2
          obtain ⟨c1, f1, zw2_1, c2, f2, zw2_2, -⟩ := s2.rules
          go_wp2_with fail
          refine (stops_any _ _ _ _ (by omega) (by omega) (by omega)).mono ?_
          rintro e w' ⟨rfl, rfl⟩
          rw [HR.out]
          go_wp2_with fail
          refine (stops_any _ _ _ _ (by omega) (by omega) (by omega)).mono ?_
          rintro e w' ⟨rfl, rfl⟩
          rw [HT.out]
          go_wp2
          go_ret3
          exact ⟨rfl, s2.below⟩
        · have z2 : t = 0 := by omega
          have z3 : (r == 0) = false := by simp; omega
          clear z z1
          go_enter Try.func83, Try.ntmps83
          go_wp2_with fail
          refine (selems_any _ _ _ _).mono ?_
          rintro e w1 ⟨rfl, hb'⟩
          have s1 := (St.start W).new.new.call hb'
          clear hb'
          try simp only [World.size_setCell] at s1
          try simp only [World.size_alloc] at s1
          obtain ⟨c1, f1, zw1_1, c2, f2, zw1_2, -⟩ := s1.rules
          rw [HE.out]
          go_wp2_with fail
          refine (wvalid_any _ _ _ _ _ _ _ _ _).mono ?_
          rintro e w2 ⟨rfl, hb'⟩
          have s2 := s1.call hb'
          clear hb' c1 f1 c2 f2
          try simp only [World.size_setCell] at s2
          try simp only [World.size_alloc] at s2
          obtain ⟨c1, f1, zw2_1, c2, f2, zw2_2, -⟩ := s2.rules
          go_wp2_with fail
          refine (stops_any _ _ _ _ (by omega) (by omega) (by omega)).mono ?_
          rintro e w' ⟨rfl, rfl⟩
          rw [HR.out]
          go_wp2_with fail
          refine (stops_any _ _ _ _ (by omega) (by omega) (by omega)).mono ?_
          rintro e w' ⟨rfl, rfl⟩
          rw [HT.out]
          go_wp2
          go_ret3
          exact ⟨rfl, s2.below⟩
      · rw [ouR_in g k z]
        clear g
        obtain ⟨r, hr⟩ : ∃ r, sp (tp + h + bt) kh sh = r := ⟨_, rfl⟩
        obtain ⟨t, ht⟩ : ∃ t, sp (lf + w + rt) kw sw = t := ⟨_, rfl⟩
        have HR : Hid (sp (tp + h + bt) kh sh = r) := hr
        have HT : Hid (sp (lf + w + rt) kw sw = t) := ht
        rw [hr, ht] at z
        rw [hr, ht]
        clear hr ht
        have z1 : (r == 0) = false := by simp; omega
        have z2 : (t == 0) = false := by simp; omega
        clear z
        go_enter Try.func83, Try.ntmps83
        go_wp2_with fail
        refine (selems_any _ _ _ _).mono ?_
        rintro e w1 ⟨rfl, hb'⟩
        have s1 := (St.start W).new.new.call hb'
        clear hb'
        try simp only [World.size_setCell] at s1
        try simp only [World.size_alloc] at s1
        obtain ⟨c1, f1, zw1_1, c2, f2, zw1_2, -⟩ := s1.rules
        rw [HE.out]
        go_wp2_with fail
        refine (wvalid_any _ _ _ _ _ _ _ _ _).mono ?_
        rintro e w2 ⟨rfl, hb'⟩
        have s2 := s1.call hb'
        clear hb' c1 f1 c2 f2
        try simp only [World.size_setCell] at s2
        try simp only [World.size_alloc] at s2
        obtain ⟨c1, f1, zw2_1, c2, f2, zw2_2, -⟩ := s2.rules
        go_wp2_with fail
        refine (stops_any _ _ _ _ (by omega) (by omega) (by omega)).mono ?_
        rintro e w' ⟨rfl, rfl⟩
        rw [HR.out]
        go_wp2_with fail
        refine (stops_any _ _ _ _ (by omega) (by omega) (by omega)).mono ?_
        rintro e w' ⟨rfl, rfl⟩
        rw [HT.out]
        go_wp2
        go_ret3
        exact ⟨rfl, s2.below⟩
theorem place_any (h w c y x : Int) (W : World) (hy : -2000 ≤ y ∧ y ≤ 4000) (hx : -2000 ≤ x ∧ x ≤ 4000) (hh : 1 ≤ h ∧ h ≤ 1024) (hw : 1 ≤ w ∧ w ≤ 1024) :
    Calls Try.prog 87 #[.agg #[.int .i64 h, .int .i64 w, .int .i64 c], .int .i64 y, .int .i64 x] W fun e w' => e = .returned (.int .i64 (plc h w y x)) ∧ Below W.heap.size W w' := by
  have S := (St.start W).new (c := #[.int .i64 h, .int .i64 w, .int .i64 c]) (t := 23)
  by_cases k1 : y < 0
  · rw [plc_out (by omega)]
    go_enter Try.func87, Try.ntmps87
    go_wp2
    go_ret
    exact ⟨rfl, S.below⟩
  by_cases k2 : h ≤ y
  · rw [plc_out (by omega)]
    go_enter Try.func87, Try.ntmps87
    go_wp2
    go_ret
    exact ⟨rfl, S.below⟩
  by_cases k3 : x < 0
  · rw [plc_out (by omega)]
    go_enter Try.func87, Try.ntmps87
    go_wp2
    go_ret
    exact ⟨rfl, S.below⟩
  by_cases k4 : w ≤ x
  · rw [plc_out (by omega)]
    go_enter Try.func87, Try.ntmps87
    go_wp2
    go_ret
    exact ⟨rfl, S.below⟩
  rw [plc_in (by omega)]
  obtain ⟨p1, p2⟩ := rowbd (by omega : y < h) (by omega : 0 ≤ y) (by omega : 0 ≤ x) (by omega : x < w)
  obtain ⟨-, t2⟩ := mul_bd hh.1 hh.2 hw.1 hw.2
  obtain ⟨t, ht⟩ : ∃ t, h * w = t := ⟨_, rfl⟩
  rw [ht] at p2 t2
  clear ht
  obtain ⟨p, hp⟩ : ∃ p, y * w = p := ⟨_, rfl⟩
  rw [hp] at p1 p2
  rw [hp]
  go_enter Try.func87, Try.ntmps87
  go_wp2
  go_ret
  exact ⟨rfl, S.below⟩
end Go.Proofs.Ytgiohlcipndakaa
