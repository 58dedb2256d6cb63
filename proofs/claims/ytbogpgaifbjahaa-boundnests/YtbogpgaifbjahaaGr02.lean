/- What Out, corner and place of package window, and the document's Out and Has, return: each for every argument. -/
import Derived.Test.YtbogpgaifbjahaaGr01
/- What Out, corner and place of package window, and the document's Out and Has, return: each for every argument. -/
namespace Go.Proofs.Ytbogpgaifbjahaa
open Go.ChangeShapes Go.WideShapes Go.ChangeAt Go.RowKit
set_option maxHeartbeats 4000000 in
theorem out_any (h w c kh kw sh sw tp lf bt rt : Int) (W : World) :
    Calls Try.prog 81 #[.agg #[.int .i64 h, .int .i64 w, .int .i64 c], .agg #[.int .i64 kh, .int .i64 kw, .int .i64 sh, .int .i64 sw, .int .i64 tp, .int .i64 lf, .int .i64 bt, .int .i64 rt]] W fun e w' => e = .returned (.tuple #[.int .i64 (ouR h w c kh kw sh sw tp lf bt rt).1, .int .i64 (ouR h w c kh kw sh sw tp lf bt rt).2.1, .int .i64 (ouR h w c kh kw sh sw tp lf bt rt).2.2]) ∧ Below W.heap.size W w' := by
  cases g : vS h w c with
  | false =>
    have HE : Hid (elR h w c = (0, 50)) := elR_no g
    rw [ouR_shape g]
    clear g
    go_enter Try.func81, Try.ntmps81
    go_wp2_with fail
    refine (selems_any _ _ _ _).mono ?_
    rintro e w1 ⟨rfl, hb'⟩
    have s1 := (St.start W).new.new.call hb'
    clear hb'
    try simp only [World.size_setCell] at s1
    try simp only [World.size_alloc] at s1
    obtain ⟨c1, f1, zw1_1, c2, f2, zw1_2, -⟩ := s1.rules
    rw [HE.out]
    go_wp2
    go_ret3
    exact ⟨rfl, s1.below⟩
  | true =>
    have HE : Hid (elR h w c = (h * w * c, 0)) := elR_ok g
    obtain ⟨q, hq⟩ : ∃ q, h * w * c = q := ⟨_, rfl⟩
    rw [hq] at HE
    clear hq
    cases k : vW kh kw sh sw tp lf bt rt with
    | false =>
      rw [ouR_win g k]
      clear g
      go_enter Try.func81, Try.ntmps81
      go_wp2_with fail
      refine (selems_any _ _ _ _).mono ?_
      rintro e w1 ⟨rfl, hb'⟩
      have s1 := (St.start W).new.new.call hb'
      clear hb'
      try simp only [World.size_setCell] at s1
      try simp only [World.size_alloc] at s1
      obtain ⟨c1, f1, zw1_1, c2, f2, zw1_2, -⟩ := s1.rules
      rw [HE.out]
      go_wp2_with fail
      refine (wvalid_any _ _ _ _ _ _ _ _ _).mono ?_
      rintro e w2 ⟨rfl, hb'⟩
      have s2 := s1.call hb'
      clear hb' c1 f1 c2 f2
      try simp only [World.size_setCell] at s2
      try simp only [World.size_alloc] at s2
      obtain ⟨c1, f1, zw2_1, c2, f2, zw2_2, -⟩ := s2.rules
      go_wp2
      go_ret3
      exact ⟨rfl, s2.below⟩
    | true =>
      obtain ⟨h1, v1, c1, -⟩ := vS_yes g
      obtain ⟨k1, k2, k3, k4, k5, k6, k7, k8⟩ := vW_yes k
      by_cases z : sp (tp + h + bt) kh sh = 0 ∨ sp (lf + w + rt) kw sw = 0
      · rw [ouR_out g k z]
        clear g
        obtain ⟨r, hr⟩ : ∃ r, sp (tp + h + bt) kh sh = r := ⟨_, rfl⟩
        obtain ⟨t, ht⟩ : ∃ t, sp (lf + w + rt) kw sw = t := ⟨_, rfl⟩
        have HR : Hid (sp (tp + h + bt) kh sh = r) := hr
        have HT : Hid (sp (lf + w + rt) kw sw = t) := ht
        rw [hr, ht] at z
        clear hr ht
        by_cases z1 : r = 0
        · go_enter Try.func81, Try.ntmps81
          go_wp2_with fail
          refine (selems_any _ _ _ _).mono ?_
          rintro e w1 ⟨rfl, hb'⟩
          have s1 := (St.start W).new.new.call hb'
          clear hb'
          try simp only [World.size_setCell] at s1
          try simp only [World.size_alloc] at s1
          obtain ⟨c1, f1, zw1_1, c2, f2, zw1_2, -⟩ := s1.rules
          rw [HE.out]
          go_wp2_with fail
          refine (wvalid_any _ _ _ _ _ _ _ _ _).mono ?_
          rintro e w2 ⟨rfl, hb'⟩
          have s2 := s1.call hb'
          clear hb' c1 f1 c2 f2
          try simp only [World.size_setCell] at s2
          try simp only [World.size_alloc] at s2
          obtain ⟨c1, f1, zw2_1, c2, f2, zw2_2, -⟩ := s2.rules
          go_wp2_with fail
          refine (stops_any _ _ _ _ (by omega) (by omega) (by omega)).mono ?_
          rintro e w' ⟨rfl, rfl⟩
          rw [HR.out]
          go_wp2_with fail
          refine (stops_any _ _ _ _ (by omega) (by omega) (by omega)).mono ?_
          rintro e w' ⟨rfl, rfl⟩
          rw [HT.out]
          go_wp2
          go_ret3
          exact ⟨rfl, s2.below⟩
        · have z2 : t = 0 := by omega
          have z3 : (r == 0) = false := by simp; omega
          clear z z1
          go_enter Try.func81, Try.ntmps81
          go_wp2_with fail
          refine (selems_any _ _ _ _).mono ?_
          rintro e w1 ⟨rfl, hb'⟩
          have s1 := (St.start W).new.new.call hb'
          clear hb'
          try simp only [World.size_setCell] at s1
          try simp only [World.size_alloc] at s1
          obtain ⟨c1, f1, zw1_1, c2, f2, zw1_2, -⟩ := s1.rules
          rw [HE.out]
          go_wp2_with fail
          refine (wvalid_any _ _ _ _ _ _ _ _ _).mono ?_
          rintro e w2 ⟨rfl, hb'⟩
          have s2 := s1.call hb'
          clear hb' c1 f1 c2 f2
          try simp only [World.size_setCell] at s2
          try simp only [World.size_alloc] at s2
          obtain ⟨c1, f1, zw2_1, c2, f2, zw2_2, -⟩ := s2.rules
          go_wp2_with fail
          refine (stops_any _ _ _ _ (by omega) (by omega) (by omega)).mono ?_
          rintro e w' ⟨rfl, rfl⟩
          rw [HR.out]
          go_wp2_with fail
          refine (stops_any _ _ _ _ (by omega) (by omega) (by omega)).mono ?_
          rintro e w' ⟨rfl, rfl⟩
          rw [HT.out]
          go_wp2
          go_ret3
          exact ⟨rfl, s2.below⟩
      · rw [ouR_in g k z]
        clear g
        obtain ⟨r, hr⟩ : ∃ r, sp (tp + h + bt) kh sh = r := ⟨_, rfl⟩
        obtain ⟨t, ht⟩ : ∃ t, sp (lf + w + rt) kw sw = t := ⟨_, rfl⟩
        have HR : Hid (sp (tp + h + bt) kh sh = r) := hr
        have HT : Hid (sp (lf + w + rt) kw sw = t) := ht
        rw [hr, ht] at z
        rw [hr, ht]
        clear hr ht
        have z1 : (r == 0) = false := by simp; omega
        have z2 : (t == 0) = false := by simp; omega
        clear z
        go_enter Try.func81, Try.ntmps81
        go_wp2_with fail
        refine (selems_any _ _ _ _).mono ?_
        rintro e w1 ⟨rfl, hb'⟩
        have s1 := (St.start W).new.new.call hb'
        clear hb'
        try simp only [World.size_setCell] at s1
        try simp only [World.size_alloc] at s1
        obtain ⟨c1, f1, zw1_1, c2, f2, zw1_2, -⟩ := s1.rules
        rw [HE.out]
        go_wp2_with fail
        refine (wvalid_any _ _ _ _ _ _ _ _ _).mono ?_
        rintro e w2 ⟨rfl, hb'⟩
        have s2 := s1.call hb'
        clear hb' c1 f1 c2 f2
        try simp only [World.size_setCell] at s2
        try simp only [World.size_alloc] at s2
        obtain ⟨c1, f1, zw2_1, c2, f2, zw2_2, -⟩ := s2.rules
        go_wp2_with fail
        refine (stops_any _ _ _ _ (by omega) (by omega) (by omega)).mono ?_
        rintro e w' ⟨rfl, rfl⟩
        rw [HR.out]
        go_wp2_with fail
        refine (stops_any _ _ _ _ (by omega) (by omega) (by omega)).mono ?_
        rintro e w' ⟨rfl, rfl⟩
        rw [HT.out]
        go_wp2
        go_ret3
        exact ⟨rfl, s2.below⟩
set_option maxHeartbeats 4000000 in
theorem rout_any (h w c kh kw sh sw tp lf bt rt : Int) (W : World) :
    Calls Try.prog 85 #[.agg #[.int .i64 h, .int .i64 w, .int .i64 c], .agg #[.int .i64 kh, .int .i64 kw, .int .i64 sh, .int .i64 sw, .int .i64 tp, .int .i64 lf, .int .i64 bt, .int .i64 rt]] W fun e w' => e = .returned (.tuple #[.int .i64 (ouR h w c kh kw sh sw tp lf bt rt).1, .int .i64 (ouR h w c kh kw sh sw tp lf bt rt).2.1, .int .i64 (ouR h w c kh kw sh sw tp lf bt rt).2.2]) ∧ Below W.heap.size W w' := by
  cases g : vS h w c with
  | false =>
    rw [ouR_shape g]
    go_enter Try.func85, Try.ntmps85
    go_wp2_with fail
    refine (rvalid_any _ _ _ _).mono ?_
    rintro e w1 ⟨rfl, hb'⟩
    have s1 := (St.start W).new.new.call hb'
    clear hb'
    try simp only [World.size_setCell] at s1
    try simp only [World.size_alloc] at s1
    obtain ⟨c1, f1, zw1_1, c2, f2, zw1_2, -⟩ := s1.rules
    go_wp2
    go_ret3
    exact ⟨rfl, s1.below⟩
  | true =>
    cases k : vW kh kw sh sw tp lf bt rt with
    | false =>
      rw [ouR_win g k]
      go_enter Try.func85, Try.ntmps85
      go_wp2_with fail
      refine (rvalid_any _ _ _ _).mono ?_
      rintro e w1 ⟨rfl, hb'⟩
      have s1 := (St.start W).new.new.call hb'
      clear hb'
      try simp only [World.size_setCell] at s1
      try simp only [World.size_alloc] at s1
      obtain ⟨c1, f1, zw1_1, c2, f2, zw1_2, -⟩ := s1.rules
      go_wp2_with fail
      refine (wrvalid_any _ _ _ _ _ _ _ _ _).mono ?_
      rintro e w2 ⟨rfl, hb'⟩
      have s2 := s1.call hb'
      clear hb' c1 f1 c2 f2
      try simp only [World.size_setCell] at s2
      try simp only [World.size_alloc] at s2
      obtain ⟨c1, f1, zw2_1, c2, f2, zw2_2, -⟩ := s2.rules
      go_wp2
      go_ret3
      exact ⟨rfl, s2.below⟩
    | true =>
      obtain ⟨h1, v1, c1, -⟩ := vS_yes g
      obtain ⟨k1, k2, k3, k4, k5, k6, k7, k8⟩ := vW_yes k
      by_cases z : sp (tp + h + bt) kh sh = 0 ∨ sp (lf + w + rt) kw sw = 0
      · rw [ouR_out g k z]
        obtain ⟨r, hr⟩ : ∃ r, sp (tp + h + bt) kh sh = r := ⟨_, rfl⟩
        obtain ⟨t, ht⟩ : ∃ t, sp (lf + w + rt) kw sw = t := ⟨_, rfl⟩
        have HR : Hid (sp (h + tp + bt) kh sh = r) := by unfold Hid; rw [Int.add_comm h tp]; exact hr
        have HT : Hid (sp (w + lf + rt) kw sw = t) := by unfold Hid; rw [Int.add_comm w lf]; exact ht
        rw [hr, ht] at z
        clear hr ht
        by_cases z1 : r = 0
        · go_enter Try.func85, Try.ntmps85
          go_wp2_with fail
          refine (rvalid_any _ _ _ _).mono ?_
          rintro e w1 ⟨rfl, hb'⟩
          have s1 := (St.start W).new.new.call hb'
          clear hb'
          try simp only [World.size_setCell] at s1
          try simp only [World.size_alloc] at s1
          obtain ⟨c1, f1, zw1_1, c2, f2, zw1_2, -⟩ := s1.rules
          go_wp2_with fail
          refine (wrvalid_any _ _ _ _ _ _ _ _ _).mono ?_
          rintro e w2 ⟨rfl, hb'⟩
          have s2 := s1.call hb'
          clear hb' c1 f1 c2 f2
          try simp only [World.size_setCell] at s2
          try simp only [World.size_alloc] at s2
          obtain ⟨c1, f1, zw2_1, c2, f2, zw2_2, -⟩ := s2.rules
          go_wp2_with fail
          refine (count_any _ _ _ _ (by omega) (by omega) (by omega)).mono ?_
          rintro e w' ⟨rfl, rfl⟩
          rw [HR.out]
          go_wp2_with fail
          refine (count_any _ _ _ _ (by omega) (by omega) (by omega)).mono ?_
          rintro e w' ⟨rfl, rfl⟩
          rw [HT.out]
          go_wp2
          go_ret3
          exact ⟨rfl, s2.below⟩
        · have z2 : t = 0 := by omega
          have z3 : (r == 0) = false := by simp; omega
          clear z z1
          go_enter Try.func85, Try.ntmps85
          go_wp2_with fail
          refine (rvalid_any _ _ _ _).mono ?_
          rintro e w1 ⟨rfl, hb'⟩
          have s1 := (St.start W).new.new.call hb'
          clear hb'
          try simp only [World.size_setCell] at s1
          try simp only [World.size_alloc] at s1
          obtain ⟨c1, f1, zw1_1, c2, f2, zw1_2, -⟩ := s1.rules
          go_wp2_with fail
          refine (wrvalid_any _ _ _ _ _ _ _ _ _).mono ?_
          rintro e w2 ⟨rfl, hb'⟩
          have s2 := s1.call hb'
          clear hb' c1 f1 c2 f2
          try simp only [World.size_setCell] at s2
          try simp only [World.size_alloc] at s2
          obtain ⟨c1, f1, zw2_1, c2, f2, zw2_2, -⟩ := s2.rules
          go_wp2_with fail
          refine (count_any _ _ _ _ (by omega) (by omega) (by omega)).mono ?_
          rintro e w' ⟨rfl, rfl⟩
          rw [HR.out]
          go_wp2_with fail
          refine (count_any _ _ _ _ (by omega) (by omega) (by omega)).mono ?_
          rintro e w' ⟨rfl, rfl⟩
          rw [HT.out]
          go_wp2
          go_ret3
          exact ⟨rfl, s2.below⟩
      · rw [ouR_in g k z]
        obtain ⟨r, hr⟩ : ∃ r, sp (tp + h + bt) kh sh = r := ⟨_, rfl⟩
        obtain ⟨t, ht⟩ : ∃ t, sp (lf + w + rt) kw sw = t := ⟨_, rfl⟩
        have HR : Hid (sp (h + tp + bt) kh sh = r) := by unfold Hid; rw [Int.add_comm h tp]; exact hr
        have HT : Hid (sp (w + lf + rt) kw sw = t) := by unfold Hid; rw [Int.add_comm w lf]; exact ht
        rw [hr, ht] at z
        rw [hr, ht]
        clear hr ht
        have z1 : (r == 0) = false := by simp; omega
        have z2 : (t == 0) = false := by simp; omega
        clear z
        go_enter Try.func85, Try.ntmps85
        go_wp2_with fail
        refine (rvalid_any _ _ _ _).mono ?_
        rintro e w1 ⟨rfl, hb'⟩
        have s1 := (St.start W).new.new.call hb'
        clear hb'
        try simp only [World.size_setCell] at s1
        try simp only [World.size_alloc] at s1
        obtain ⟨c1, f1, zw1_1, c2, f2, zw1_2, -⟩ := s1.rules
        go_wp2_with fail
        refine (wrvalid_any _ _ _ _ _ _ _ _ _).mono ?_
        rintro e w2 ⟨rfl, hb'⟩
        have s2 := s1.call hb'
        clear hb' c1 f1 c2 f2
        try simp only [World.size_setCell] at s2
        try simp only [World.size_alloc] at s2
        obtain ⟨c1, f1, zw2_1, c2, f2, zw2_2, -⟩ := s2.rules
        go_wp2_with fail
        refine (count_any _ _ _ _ (by omega) (by omega) (by omega)).mono ?_
        rintro e w' ⟨rfl, rfl⟩
        rw [HR.out]
        go_wp2_with fail
        refine (count_any _ _ _ _ (by omega) (by omega) (by omega)).mono ?_
        rintro e w' ⟨rfl, rfl⟩
        rw [HT.out]
        go_wp2
        go_ret3
        exact ⟨rfl, s2.below⟩
theorem place_any (h w c y x : Int) (W : World) (hy : -2000 ≤ y ∧ y ≤ 4000) (hx : -2000 ≤ x ∧ x ≤ 4000) (hh : 1 ≤ h ∧ h ≤ 1024) (hw : 1 ≤ w ∧ w ≤ 1024) :
    Calls Try.prog 66 #[.agg #[.int .i64 h, .int .i64 w, .int .i64 c], .int .i64 y, .int .i64 x] W fun e w' => e = .returned (.int .i64 (plc h w y x)) ∧ Below W.heap.size W w' := by
  have S := (St.start W).new (c := #[.int .i64 h, .int .i64 w, .int .i64 c]) (t := 23)
  by_cases k1 : y < 0
  · rw [plc_out (by omega)]
    go_enter Try.func66, Try.ntmps66
    go_wp2
    go_ret
    exact ⟨rfl, S.below⟩
  by_cases k2 : h ≤ y
  · rw [plc_out (by omega)]
    go_enter Try.func66, Try.ntmps66
    go_wp2
    go_ret
    exact ⟨rfl, S.below⟩
  by_cases k3 : x < 0
  · rw [plc_out (by omega)]
    go_enter Try.func66, Try.ntmps66
    go_wp2
    go_ret
    exact ⟨rfl, S.below⟩
  by_cases k4 : w ≤ x
  · rw [plc_out (by omega)]
    go_enter Try.func66, Try.ntmps66
    go_wp2
    go_ret
    exact ⟨rfl, S.below⟩
  rw [plc_in (by omega)]
  obtain ⟨p1, p2⟩ := rowbd (by omega : y < h) (by omega : 0 ≤ y) (by omega : 0 ≤ x) (by omega : x < w)
  obtain ⟨-, t2⟩ := mul_bd hh.1 hh.2 hw.1 hw.2
  obtain ⟨t, ht⟩ : ∃ t, h * w = t := ⟨_, rfl⟩
  rw [ht] at p2 t2
  clear ht
  obtain ⟨p, hp⟩ : ∃ p, y * w = p := ⟨_, rfl⟩
  rw [hp] at p1 p2
  rw [hp]
  go_enter Try.func66, Try.ntmps66
  go_wp2
  go_ret
  exact ⟨rfl, S.below⟩
end Go.Proofs.Ytbogpgaifbjahaa
