/- What Out, corner and place of package window, and the document's Out and Has, return: each for every argument. -/
import Derived.Test.YthagdpiocmcbmaaWinA
namespace Go.Proofs.Ythagdpiocmcbmaa
open Go.ChangeShapes Go.WideShapes Go.ChangeAt Go.RowKit
set_option maxHeartbeats 4000000 in
theorem out_any (h w c kh kw sh sw tp lf bt rt : Int) (W : World) :
    Calls Try.prog 81 #[.agg #[.int .i64 h, .int .i64 w, .int .i64 c], .agg #[.int .i64 kh, .int .i64 kw, .int .i64 sh, .int .i64 sw, .int .i64 tp, .int .i64 lf, .int .i64 bt, .int .i64 rt]] W fun e w' => e = .returned (.tuple #[.int .i64 (ouR h w c kh kw sh sw tp lf bt rt).1, .int .i64 (ouR h w c kh kw sh sw tp lf bt rt).2.1, .int .i64 (ouR h w c kh kw sh sw tp lf bt rt).2.2]) ∧ Below W.heap.size W w' := by
  cases g : vS h w c with
  | false =>
    have HE : Hid (elR h w c = (0, 50)) := elR_no g
    rw [ouR_shape g]
    clear g
    go_enter Try.func81, Try.ntmps81
    go_wp2_with fail
    refine (selems_any _ _ _ _).mono ?_
    rintro e w1 ⟨rfl, hb'⟩
    have s1 := (St.start W).new.new.call hb'
    clear hb'
    try simp only [World.size_setCell] at s1
    try simp only [World.size_alloc] at s1
    obtain ⟨c1, f1, zw1_1, c2, f2, zw1_2, -⟩ := s1.rules
    rw [HE.out]
    go_wp2
    go_ret3
    exact ⟨rfl, s1.below⟩
  | true =>
    have HE : Hid (elR h w c = (h * w * c, 0)) := elR_ok g
    obtain ⟨q, hq⟩ : ∃ q, h * w * c = q := ⟨_, rfl⟩
    rw [hq] at HE
    clear hq
    cases k : vW kh kw sh sw tp lf bt rt with
    | false =>
      rw [ouR_win g k]
      clear g
      go_enter Try.func81, Try.ntmps81
      go_wp2_with fail
      refine (selems_any _ _ _ _).mono ?_
      rintro e w1 ⟨rfl, hb'⟩
      have s1 := (St.start W).new.new.call hb'
      clear hb'
      try simp only [World.size_setCell] at s1
      try simp only [World.size_alloc] at s1
      obtain ⟨c1, f1, zw1_1, c2, f2, zw1_2, -⟩ := s1.rules
      rw [HE.out]
      go_wp2_with fail
      refine (wvalid_any _ _ _ _ _ _ _ _ _).mono ?_
      rintro e w2 ⟨rfl, hb'⟩
      have s2 := s1.call hb'
      clear hb' c1 f1 c2 f2
      try simp only [World.size_setCell] at s2
      try simp only [World.size_alloc] at s2
      obtain ⟨c1, f1, zw2_1, c2, f2, zw2_2, -⟩ := s2.rules
      go_wp2
      go_ret3
      exact ⟨rfl, s2.below⟩
    | true =>
      obtain ⟨h1, v1, c1, -⟩ := vS_yes g
      obtain ⟨k1, k2, k3, k4, k5, k6, k7, k8⟩ := vW_yes k
      by_cases z : sp (tp + h + bt) kh sh = 0 ∨ sp (lf + w + rt) kw sw = 0
      · rw [ouR_out g k z]
        clear g
        obtain ⟨r, hr⟩ : ∃ r, sp (tp + h + bt) kh sh = r := ⟨_, rfl⟩
        obtain ⟨t, ht⟩ : ∃ t, sp (lf + w + rt) kw sw = t := ⟨_, rfl⟩
        have HR : Hid (sp (tp + h + bt) kh sh = r) := hr
        have HT : Hid (sp (lf + w + rt) kw sw = t) := ht
        rw [hr, ht] at z
        clear hr ht
        by_cases z1 : r = 0
        · go_enter Try.func81, Try.ntmps81
          go_wp2_with fail
          refine (selems_any _ _ _ _).mono ?_
          rintro e w1 ⟨rfl, hb'⟩
          have s1 := (St.start W).new.new.call hb'
          clear hb'
          try simp only [World.size_setCell] at s1
          try simp only [World.size_alloc] at s1
          obtain ⟨c1, f1, zw1_1, c2, f2, zw1_2, -⟩ := s1.rules
          rw [HE.out]
          go_wp2_with fail
          refine (wvalid_any _ _ _ _ _ _ _ _ _).mono ?_
          rintro e w2 ⟨rfl, hb'⟩
          have s2 := s1.call hb'
          clear hb' c1 f1 c2 f2
          try simp only [World.size_setCell] at s2
          try simp only [World.size_alloc] at s2
          obtain ⟨c1, f1, zw2_1, c2, f2, zw2_2, -⟩ := s2.rules
          go_wp2_with fail
          refine (stops_any _ _ _ _ (by omega) (by omega) (by omega)).mono ?_
          rintro e w' ⟨rfl, rfl⟩
          rw [HR.out]
          go_wp2_with fail
          refine (stops_any _ _ _ _ (by omega) (by omega) (by omega)).mono ?_
          rintro e w' ⟨rfl, rfl⟩
          rw [HT.out]
          go_wp2
          go_ret3
          exact ⟨rfl, s2.below⟩
        · have z2 : t = 0 := by omega
          have z3 : (r == 0) = false := by simp; omega
          clear z z1
          go_enter Try.func81, Try.ntmps81
          go_wp2_with fail
          refine (selems_any _ _ _ _).mono ?_
          rintro e w1 ⟨rfl, hb'⟩
          have s1 := (St.start W).new.new.call hb'
          clear hb'
          try simp only [World.size_setCell] at s1
          try simp only [World.size_alloc] at s1
          obtain ⟨c1, f1, zw1_1, c2, f2, zw1_2, -⟩ := s1.rules
          rw [HE.out]
          go_wp2_with fail
          refine (wvalid_any _ _ _ _ _ _ _ _ _).mono ?_
          rintro e w2 ⟨rfl, hb'⟩
          have s2 := s1.call hb'
          clear hb' c1 f1 c2 f2
          try simp only [World.size_setCell] at s2
          try simp only [World.size_alloc] at s2
          obtain ⟨c1, f1, zw2_1, c2, f2, zw2_2, -⟩ := s2.rules
          go_wp2_with fail
          refine (stops_any _ _ _ _ (by omega) (by omega) (by omega)).mono ?_
          rintro e w' ⟨rfl, rfl⟩
          rw [HR.out]
          go_wp2_with fail
          refine (stops_any _ _ _ _ (by omega) (by omega) (by omega)).mono ?_
          rintro e w' ⟨rfl, rfl⟩
          rw [HT.out]
          go_wp2
          go_ret3
          exact ⟨rfl, s2.below⟩
      · rw [ouR_in g k z]
        clear g
        obtain ⟨r, hr⟩ : ∃ r, sp (tp + h + bt) kh sh = r := ⟨_, rfl⟩
        obtain ⟨t, ht⟩ : ∃ t, sp (lf + w + rt) kw sw = t := ⟨_, rfl⟩
        have HR : Hid (sp (tp + h + bt) kh sh = r) := hr
        have HT : Hid (sp (lf + w + rt) kw sw = t) := ht
        rw [hr, ht] at z
        rw [hr, ht]
        clear hr ht
        have z1 : (r == 0) = false := by simp; omega
        have z2 : (t == 0) = false := by simp; omega
        clear z
        go_enter Try.func81, Try.ntmps81
        go_wp2_with fail
        refine (selems_any _ _ _ _).mono ?_
        rintro e w1 ⟨rfl, hb'⟩
        have s1 := (St.start W).new.new.call hb'
        clear hb'
        try simp only [World.size_setCell] at s1
        try simp only [World.size_alloc] at s1
        obtain ⟨c1, f1, zw1_1, c2, f2, zw1_2, -⟩ := s1.rules
        rw [HE.out]
        go_wp2_with fail
        refine (wvalid_any _ _ _ _ _ _ _ _ _).mono ?_
        rintro e w2 ⟨rfl, hb'⟩
        have s2 := s1.call hb'
        clear hb' c1 f1 c2 f2
        try simp only [World.size_setCell] at s2
        try simp only [World.size_alloc] at s2
        obtain ⟨c1, f1, zw2_1, c2, f2, zw2_2, -⟩ := s2.rules
        go_wp2_with fail
        refine (stops_any _ _ _ _ (by omega) (by omega) (by omega)).mono ?_
        rintro e w' ⟨rfl, rfl⟩
        rw [HR.out]
        go_wp2_with fail
        refine (stops_any _ _ _ _ (by omega) (by omega) (by omega)).mono ?_
        rintro e w' ⟨rfl, rfl⟩
        rw [HT.out]
        go_wp2
        go_ret3
        exact ⟨rfl, s2.below⟩
set_option maxHeartbeats 4000000 in
theorem rout_any (h w c kh kw sh sw tp lf bt rt : Int) (W : World) :
    Calls Try.prog 85 #[.agg #[.int .i64 h, .int .i64 w, .int .i64 c], .agg #[.int .i64 kh, .int .i64 kw, .int .i64 sh, .int .i64 sw, .int .i64 tp, .int .i64 lf, .int .i64 bt, .int .i64 rt]] W fun e w' => e = .returned (.tuple #[.int .i64 (ouR h w c kh kw sh sw tp lf bt rt).1, .int .i64 (ouR h w c kh kw sh sw tp lf bt rt).2.1, .int .i64 (ouR h w c kh kw sh sw tp lf bt rt).2.2]) ∧ Below W.heap.size W w' := by
  cases g : vS h w c with
  | false =>
    rw [ouR_shape g]
    go_enter Try.func85, Try.ntmps85
    go_wp2_with fail
    refine (rvalid_any _ _ _ _).mono ?_
    rintro e w1 ⟨rfl, hb'⟩
    have s1 := (St.start W).new.new.call hb'
    clear hb'
    try simp only [World.size_setCell] at s1
    try simp only [World.size_alloc] at s1
    obtain ⟨c1, f1, zw1_1, c2, f2, zw1_2, -⟩ := s1.rules
    go_wp2
    go_ret3
    exact ⟨rfl, s1.below⟩
  | true =>
    cases k : vW kh kw sh sw tp lf bt rt with
    | false =>
      rw [ouR_win g k]
      go_enter Try.func85, Try.ntmps85
      go_wp2_with fail
      refine (rvalid_any _ _ _ _).mono ?_
      rintro e w1 ⟨rfl, hb'⟩
      have s1 := (St.start W).new.new.call hb'
      clear hb'
      try simp only [World.size_setCell] at s1
      try simp only [World.size_alloc] at s1
      obtain ⟨c1, f1, zw1_1, c2, f2, zw1_2, -⟩ := s1.rules
      go_wp2_with fail
      refine (wrvalid_any _ _ _ _ _ _ _ _ _).mono ?_
      rintro e w2 ⟨rfl, hb'⟩
      have s2 := s1.call hb'
      clear hb' c1 f1 c2 f2
      try simp only [World.size_setCell] at s2
      try simp only [World.size_alloc] at s2
      obtain ⟨c1, f1, zw2_1, c2, f2, zw2_2, -⟩ := s2.rules
      go_wp2
      go_ret3
      exact ⟨rfl, s2.below⟩
    | true =>
      obtain ⟨h1, v1, c1, -⟩ := vS_yes g
      obtain ⟨k1, k2, k3, k4, k5, k6, k7, k8⟩ := vW_yes k
      by_cases z : sp (tp + h + bt) kh sh = 0 ∨ sp (lf + w + rt) kw sw = 0
      · rw [ouR_out g k z]
        obtain ⟨r, hr⟩ : ∃ r, sp (tp + h + bt) kh sh = r := ⟨_, rfl⟩
        obtain ⟨t, ht⟩ : ∃ t, sp (lf + w + rt) kw sw = t := ⟨_, rfl⟩
        have HR : Hid (sp (h + tp + bt) kh sh = r) := by unfold Hid; rw [Int.add_comm h tp]; exact hr
        have HT : Hid (sp (w + lf + rt) kw sw = t) := by unfold Hid; rw [Int.add_comm w lf]; exact ht
        rw [hr, ht] at z
        clear hr ht
        by_cases z1 : r = 0
        · go_enter Try.func85, Try.ntmps85
          go_wp2_with fail
          refine (rvalid_any _ _ _ _).mono ?_
          rintro e w1 ⟨rfl, hb'⟩
          have s1 := (St.start W).new.new.call hb'
          clear hb'
          try simp only [World.size_setCell] at s1
          try simp only [World.size_alloc] at s1
          obtain ⟨c1, f1, zw1_1, c2, f2, zw1_2, -⟩ := s1.rules
          go_wp2_with fail
          refine (wrvalid_any _ _ _ _ _ _ _ _ _).mono ?_
          rintro e w2 ⟨rfl, hb'⟩
          have s2 := s1.call hb'
          clear hb' c1 f1 c2 f2
          try simp only [World.size_setCell] at s2
          try simp only [World.size_alloc] at s2
          obtain ⟨c1, f1, zw2_1, c2, f2, zw2_2, -⟩ := s2.rules
          go_wp2_with fail
          refine (count_any _ _ _ _ (by omega) (by omega) (by omega)).mono ?_
          rintro e w' ⟨rfl, rfl⟩
          rw [HR.out]
          go_wp2_with fail
          refine (count_any _ _ _ _ (by omega) (by omega) (by omega)).mono ?_
          rintro e w' ⟨rfl, rfl⟩
          rw [HT.out]
          go_wp2
          go_ret3
          exact ⟨rfl, s2.below⟩
        · have z2 : t = 0 := by omega
          have z3 : (r == 0) = false := by simp; omega
          clear z z1
          go_enter Try.func85, Try.ntmps85
          go_wp2_with fail
          refine (rvalid_any _ _ _ _).mono ?_
          rintro e w1 ⟨rfl, hb'⟩
          have s1 := (St.start W).new.new.call hb'
          clear hb'
          try simp only [World.size_setCell] at s1
          try simp only [World.size_alloc] at s1
          obtain ⟨c1, f1, zw1_1, c2, f2, zw1_2, -⟩ := s1.rules
          go_wp2_with fail
          refine (wrvalid_any _ _ _ _ _ _ _ _ _).mono ?_
          rintro e w2 ⟨rfl, hb'⟩
          have s2 := s1.call hb'
          clear hb' c1 f1 c2 f2
          try simp only [World.size_setCell] at s2
          try simp only [World.size_alloc] at s2
          obtain ⟨c1, f1, zw2_1, c2, f2, zw2_2, -⟩ := s2.rules
          go_wp2_with fail
          refine (count_any _ _ _ _ (by omega) (by omega) (by omega)).mono ?_
          rintro e w' ⟨rfl, rfl⟩
          rw [HR.out]
          go_wp2_with fail
          refine (count_any _ _ _ _ (by omega) (by omega) (by omega)).mono ?_
          rintro e w' ⟨rfl, rfl⟩
          rw [HT.out]
          go_wp2
          go_ret3
          exact ⟨rfl, s2.below⟩
      · rw [ouR_in g k z]
        obtain ⟨r, hr⟩ : ∃ r, sp (tp + h + bt) kh sh = r := ⟨_, rfl⟩
        obtain ⟨t, ht⟩ : ∃ t, sp (lf + w + rt) kw sw = t := ⟨_, rfl⟩
        have HR : Hid (sp (h + tp + bt) kh sh = r) := by unfold Hid; rw [Int.add_comm h tp]; exact hr
        have HT : Hid (sp (w + lf + rt) kw sw = t) := by unfold Hid; rw [Int.add_comm w lf]; exact ht
        rw [hr, ht] at z
        rw [hr, ht]
        clear hr ht
        have z1 : (r == 0) = false := by simp; omega
        have z2 : (t == 0) = false := by simp; omega
        clear z
        go_enter Try.func85, Try.ntmps85
        go_wp2_with fail
        refine (rvalid_any _ _ _ _).mono ?_
        rintro e w1 ⟨rfl, hb'⟩
        have s1 := (St.start W).new.new.call hb'
        clear hb'
        try simp only [World.size_setCell] at s1
        try simp only [World.size_alloc] at s1
        obtain ⟨c1, f1, zw1_1, c2, f2, zw1_2, -⟩ := s1.rules
        go_wp2_with fail
        refine (wrvalid_any _ _ _ _ _ _ _ _ _).mono ?_
        rintro e w2 ⟨rfl, hb'⟩
        have s2 := s1.call hb'
        clear hb' c1 f1 c2 f2
        try simp only [World.size_setCell] at s2
        try simp only [World.size_alloc] at s2
        obtain ⟨c1, f1, zw2_1, c2, f2, zw2_2, -⟩ := s2.rules
        go_wp2_with fail
        refine (count_any _ _ _ _ (by omega) (by omega) (by omega)).mono ?_
        rintro e w' ⟨rfl, rfl⟩
        rw [HR.out]
        go_wp2_with fail
        refine (count_any _ _ _ _ (by omega) (by omega) (by omega)).mono ?_
        rintro e w' ⟨rfl, rfl⟩
        rw [HT.out]
        go_wp2
        go_ret3
        exact ⟨rfl, s2.below⟩
end Go.Proofs.Ythagdpiocmcbmaa
