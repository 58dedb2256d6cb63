/- Safe, Most and Choose of package depth, of what they ask. What hull of package bound returns, whatever is taken. Slices of structs that came in, opened. Readings whose every list is within the reach: slices of integers, and slices of structs that hold slices, opened with that. Fronts of models in plain numbers; what is known of each op of a well-formed model; ops that came in. Sums of ops that reduce, in plain numbers: their terms, their bias, and what is known of such an op of a well-formed model. What the small functions of package terms return: how many terms, channels and positions an op has; its bias; a weight; the channels that are read; a place. What places of package terms returns: the places of a channel's terms at a position. -/
import Derived.Test.YtgiohlcipndakaaGr01
import Derived.Test.YtgiohlcipndakaaGr13
import Derived.Test.YtgiohlcipndakaaGr14
import Derived.SizedLaws
import Derived.BigQuiet
import Derived.Maps.AppendAt
import Derived.RangeFuncCalls
import Derived.Shelf.RegionOpen
/- Safe, Most and Choose of package depth, of what they ask. -/
namespace Go.Proofs.Ytgiohlcipndakaa
open Go.ChangeShapes Go.WideShapes Go.ChangeAt Go.RowKit
set_option linter.unusedVariables false
def saB (A B E : Int) : Bool := decide (E = 0) && w16 (A, B)
theorem saB_0 (A B : Int) : saB A B 0 = wiB (-32768) 32767 A B := by unfold saB w16; simp
theorem saB_e {A B E : Int} (h : E ≠ 0) : saB A B E = false := by unfold saB; simp [h]
set_option maxRecDepth 100000 in
set_option maxHeartbeats 2000000 in
theorem dsaf_w (h w c lo hi ot op ch : Int) (oa : Option Addr) (on oc : Nat) (W : World) (slo shi : Int) (dp A B E : Int) (hP : ∀ W', Below W.heap.size W W' → Calls Try.prog 12 #[.agg #[.int .i64 h, .int .i64 w, .int .i64 c, .int .i64 lo, .int .i64 hi, .slice oa on oc, .int .i64 ot], .int .i64 op, .int .i64 ch, .agg #[.int .i64 slo, .int .i64 shi], .int .i64 dp] W' fun e w' => e = .returned (.tuple #[.agg #[.int .i64 A, .int .i64 B], .int .i64 E]) ∧ Below W'.heap.size W' w') :
    Calls Try.prog 11 #[.agg #[.int .i64 h, .int .i64 w, .int .i64 c, .int .i64 lo, .int .i64 hi, .slice oa on oc, .int .i64 ot], .int .i64 op, .int .i64 ch, .agg #[.int .i64 slo, .int .i64 shi], .int .i64 dp] W fun e w' => e = .returned (.tuple #[.bool (saB A B E), .int .i64 E]) ∧ Below W.heap.size W w' := by
  have HP : Hid (∀ W', Below W.heap.size W W' → _) := hP
  have s0 := ((St.start W).new (c := #[.int .i64 h, .int .i64 w, .int .i64 c, .int .i64 lo, .int .i64 hi, .slice oa on oc, .int .i64 ot]) (t := 26)).new (c := #[.int .i64 slo, .int .i64 shi]) (t := 28)
  simp only [World.size_alloc] at s0
  clear hP
  by_cases h0 : E = 0
  · subst h0
    rw [saB_0]
    have HW : Hid (∀ w, _) := fun w => dwit_any (-32768) 32767 A B w
    have H6 : Hid (∀ w, _) := fun w => d16_any w
    go_enter Try.func11, Try.ntmps11
    go_wp2_with fail
    refine (HP.out _ s0.below).mono ?_
    rintro e w1 ⟨rfl, hb⟩
    have s1 := (s0.call hb).new (c := #[.int .i64 A, .int .i64 B]) (t := 28)
    clear hb s0 HP
    go_wp2_with fail
    obtain ⟨c1, g1, c2, g2, c3, g3, -⟩ := rulesQ_st s1
    have hne := Nonempty.intro (Wd.mk _ s1)
    refine region_held s1 (by kernel_rfl) (by kernel_rfl) ?_
    repeat (first
      | (go_big_quiet_step ((go_at_call 17; exact held_of (H6.out _))))
      | (go_big_quiet_step ((go_at_call 16; exact held_of (HW.out _)))))
    refine wpQuiet_nil ?_
    intro _ hw'
    obtain ⟨nq, rfl⟩ := hw'
    have s8 := nq.h
    obtain ⟨w8, hw8⟩ : ∃ w, nq.w = w := ⟨_, rfl⟩
    rw [hw8] at s8 ⊢
    clear c1 g1 c2 g2 c3 g3 hne s1 hw8
    go_wp2
    exact bodyPost_ret (v := .tuple #[.bool (wiB (-32768) 32767 A B), .int .i64 0]) (by simp [results, Try.results11, go_sem]) rfl ⟨rfl, s8.below⟩
  · rw [saB_e h0]
    have hE' : (E == 0) = false := by simp [h0]
    go_enter Try.func11, Try.ntmps11
    go_wp2_with fail
    refine (HP.out _ s0.below).mono ?_
    rintro e w1 ⟨rfl, hb⟩
    have s1 := (s0.call hb).new (c := #[.int .i64 A, .int .i64 B]) (t := 28)
    clear hb s0 HP
    go_wp2
    exact bodyPost_ret (v := .tuple #[.bool false, .int .i64 E]) (by simp [results, Try.results11, go_sem]) rfl ⟨rfl, s1.below⟩
set_option maxRecDepth 100000 in
set_option maxHeartbeats 2000000 in
theorem dclo_w (h w c lo hi ot op ch : Int) (oa : Option Addr) (on oc : Nat) (W : World) (slo shi : Int) (a1 a2 a3 a4 : Nat) (h1 : W.heap[a1]? = some (.cells #[.int .i64 h, .int .i64 w, .int .i64 c, .int .i64 lo, .int .i64 hi, .slice oa on oc, .int .i64 ot] 26 (0, 0))) (h2 : W.heap[a2]? = some (.cells #[.int .i64 op] 3 (0, 0))) (h3 : W.heap[a3]? = some (.cells #[.int .i64 ch] 3 (0, 0))) (h4 : W.heap[a4]? = some (.cells #[.int .i64 slo, .int .i64 shi] 28 (0, 0))) (dp E : Int) (v : Bool)
    (hS : Calls Try.prog 11 #[.agg #[.int .i64 h, .int .i64 w, .int .i64 c, .int .i64 lo, .int .i64 hi, .slice oa on oc, .int .i64 ot], .int .i64 op, .int .i64 ch, .agg #[.int .i64 slo, .int .i64 shi], .int .i64 dp] W fun e w' => e = .returned (.tuple #[.bool v, .int .i64 E]) ∧ Below W.heap.size W w') :
    Calls Try.prog 20 #[.int .i64 dp, .pointer (some ⟨a1, 0, none⟩), .pointer (some ⟨a2, 0, none⟩), .pointer (some ⟨a3, 0, none⟩), .pointer (some ⟨a4, 0, none⟩)] W fun e w' => e = .returned (.bool v) ∧ Below W.heap.size W w' := by
  have HS : Hid (Calls _ _ _ _ _) := hS
  obtain ⟨c1, f1, z1⟩ := cells_at h1
  obtain ⟨c2, f2, z2⟩ := cells_at h2
  obtain ⟨c3, f3, z3⟩ := cells_at h3
  obtain ⟨c4, f4, z4⟩ := cells_at h4
  clear hS h1 h2 h3 h4
  go_enter Try.func20, Try.ntmps20
  go_wp2_with fail
  refine HS.out.mono ?_
  rintro e w1 ⟨rfl, hb⟩
  have HB : Hid (Below W.heap.size W w1) := hb
  clear hb HS
  go_wp2
  go_ret
  exact ⟨rfl, HB.out⟩
set_option maxRecDepth 100000 in
set_option maxHeartbeats 2000000 in
theorem dlen_w (k a b m kh kw sh sw tp lf bt rt : Int) (wa : Option Addr) (lw wc : Nat) (ba : Option Addr) (lb bc : Nat) (sm ss um us z p l0 h0 : Int) (N : Nat) (W : World) (h4 : k = 4 → (1 ≤ kh ∧ kh ≤ 32) ∧ (1 ≤ kw ∧ kw ≤ 32) ∧ kh * kw = (N : Int)) (hn4 : k ≠ 4 → 0 < lb ∧ (lw : Int) = (lb : Int) * (N : Int)) (hN : N ≤ 512) :
    Calls Try.prog 19 #[.agg #[.int .i64 k, .int .i64 a, .int .i64 b, .int .i64 m, .int .i64 kh, .int .i64 kw, .int .i64 sh, .int .i64 sw, .int .i64 tp, .int .i64 lf, .int .i64 bt, .int .i64 rt, .slice wa lw wc, .slice ba lb bc, .int .i64 sm, .int .i64 ss, .int .i64 um, .int .i64 us, .int .i64 z, .int .i64 p, .int .i64 l0, .int .i64 h0]] W fun e w' => e = .returned (.int .i64 (N : Int)) ∧ Below W.heap.size W w' := by
  have s0 := (St.start W).new (c := #[.int .i64 k, .int .i64 a, .int .i64 b, .int .i64 m, .int .i64 kh, .int .i64 kw, .int .i64 sh, .int .i64 sw, .int .i64 tp, .int .i64 lf, .int .i64 bt, .int .i64 rt, .slice wa lw wc, .slice ba lb bc, .int .i64 sm, .int .i64 ss, .int .i64 um, .int .i64 us, .int .i64 z, .int .i64 p, .int .i64 l0, .int .i64 h0]) (t := 59)
  by_cases hk : k = 4
  · subst hk
    obtain ⟨q1, q2, q3⟩ := h4 rfl
    have hw : IntKind.i64.wrap (kh * kw) = (N : Int) := by rw [q3, IntKind.wrap_i64]; omega
    clear h4 hn4
    go_enter Try.func19, Try.ntmps19
    go_wp2
    go_ret
    exact ⟨rfl, s0.below⟩
  · obtain ⟨q1, q2⟩ := hn4 hk
    have hk' : (k == 4) = false := by simp [hk]
    clear h4 hn4
    go_enter Try.func19, Try.ntmps19
    go_wp2
    have hw : wrap64 (((lb : Int) * (N : Int)).tdiv (lb : Int)) = (N : Int) := by rw [Int.mul_tdiv_cancel_left _ (by omega)]; unfold wrap64; omega
    go_ret
    exact ⟨by show Ending.returned (Value.int .i64 (wrap64 _)) = _; rw [hw], s0.below⟩
/-! ### Most -/
set_option maxRecDepth 100000 in
set_option maxHeartbeats 2000000 in
theorem dmos_e (h w c lo hi ot op ch : Int) (oa : Option Addr) (on oc : Nat) (W : World) (slo shi : Int) (A B E : Int) (h0 : E ≠ 0) (hP : ∀ W', Below W.heap.size W W' → Calls Try.prog 9 #[.agg #[.int .i64 h, .int .i64 w, .int .i64 c, .int .i64 lo, .int .i64 hi, .slice oa on oc, .int .i64 ot], .int .i64 op, .int .i64 ch, .agg #[.int .i64 slo, .int .i64 shi]] W' fun e w' => e = .returned (.tuple #[.agg #[.int .i64 A, .int .i64 B], .int .i64 E]) ∧ Below W'.heap.size W' w') :
    Calls Try.prog 7 #[.agg #[.int .i64 h, .int .i64 w, .int .i64 c, .int .i64 lo, .int .i64 hi, .slice oa on oc, .int .i64 ot], .int .i64 op, .int .i64 ch, .agg #[.int .i64 slo, .int .i64 shi]] W fun e w' => e = .returned (.tuple #[.int .i64 0, .int .i64 E]) ∧ Below W.heap.size W w' := by
  have HP : Hid (∀ W', Below W.heap.size W W' → _) := hP
  have s0 := ((((St.start W).new (c := #[.int .i64 h, .int .i64 w, .int .i64 c, .int .i64 lo, .int .i64 hi, .slice oa on oc, .int .i64 ot]) (t := 26)).new (c := #[.int .i64 op]) (t := 3)).new (c := #[.int .i64 ch]) (t := 3)).new (c := #[.int .i64 slo, .int .i64 shi]) (t := 28)
  simp only [World.size_alloc] at s0
  clear hP
  have hE' : (E == 0) = false := by simp [h0]
  go_enter Try.func7, Try.ntmps7
  go_wp2_with fail
  refine (HP.out _ s0.below).mono ?_
  rintro e w1 ⟨rfl, hb⟩
  have s1 := (s0.call hb).new (c := #[.int .i64 A, .int .i64 B]) (t := 28)
  clear hb s0 HP
  go_wp2
  exact bodyPost_ret (v := .tuple #[.int .i64 0, .int .i64 E]) (by simp [results, Try.results7, go_sem]) rfl ⟨rfl, s1.below⟩
set_option maxRecDepth 100000 in
set_option maxHeartbeats 4000000 in
theorem dmos_n (h w c lo hi ot op ch : Int) (oa : Option Addr) (on oc : Nat) (W : World) (slo shi : Int) (A B E : Int) (h0 : E = 0) (hP : ∀ W', Below W.heap.size W W' → Calls Try.prog 9 #[.agg #[.int .i64 h, .int .i64 w, .int .i64 c, .int .i64 lo, .int .i64 hi, .slice oa on oc, .int .i64 ot], .int .i64 op, .int .i64 ch, .agg #[.int .i64 slo, .int .i64 shi]] W' fun e w' => e = .returned (.tuple #[.agg #[.int .i64 A, .int .i64 B], .int .i64 E]) ∧ Below W'.heap.size W' w') (hn : wiB (-32768) 32767 A B = false) :
    Calls Try.prog 7 #[.agg #[.int .i64 h, .int .i64 w, .int .i64 c, .int .i64 lo, .int .i64 hi, .slice oa on oc, .int .i64 ot], .int .i64 op, .int .i64 ch, .agg #[.int .i64 slo, .int .i64 shi]] W fun e w' => e = .returned (.tuple #[.int .i64 0, .int .i64 0]) ∧ Below W.heap.size W w' := by
  subst h0
  have HP : Hid (∀ W', Below W.heap.size W W' → _) := hP
  have HW : Hid (∀ w, _) := fun w => dwit_any (-32768) 32767 A B w
  have H6 : Hid (∀ w, _) := fun w => d16_any w
  rw [hn] at HW
  have s0 := ((((St.start W).new (c := #[.int .i64 h, .int .i64 w, .int .i64 c, .int .i64 lo, .int .i64 hi, .slice oa on oc, .int .i64 ot]) (t := 26)).new (c := #[.int .i64 op]) (t := 3)).new (c := #[.int .i64 ch]) (t := 3)).new (c := #[.int .i64 slo, .int .i64 shi]) (t := 28)
  simp only [World.size_alloc] at s0
  clear hP hn
  go_enter Try.func7, Try.ntmps7
  go_wp2_with fail
  refine (HP.out _ s0.below).mono ?_
  rintro e w1 ⟨rfl, hb⟩
  have s1 := (s0.call hb).new (c := #[.int .i64 A, .int .i64 B]) (t := 28)
  clear hb s0 HP
  go_wp2_with fail
  obtain ⟨c1, g1, c2, g2, c3, g3, c4, g4, c5, g5, -⟩ := rulesQ_st s1
  have hne := Nonempty.intro (Wd.mk _ s1)
  refine region_held s1 (by kernel_rfl) (by kernel_rfl) ?_
  repeat (first
    | (go_big_quiet_step ((go_at_call 17; exact held_of (H6.out _))))
    | (go_big_quiet_step ((go_at_call 16; exact held_of (HW.out _)))))
  refine wpQuiet_nil ?_
  intro _ hw'
  obtain ⟨nq, rfl⟩ := hw'
  have s8 := nq.h
  obtain ⟨w8, hw8⟩ : ∃ w, nq.w = w := ⟨_, rfl⟩
  rw [hw8] at s8 ⊢
  clear c1 g1 c2 g2 c3 g3 c4 g4 c5 g5 hne s1 hw8
  go_wp2
  exact bodyPost_ret (v := .tuple #[.int .i64 0, .int .i64 0]) (by simp [results, Try.results7, go_sem]) rfl ⟨rfl, s8.below⟩
set_option maxRecDepth 100000 in
set_option maxHeartbeats 8000000 in
theorem dmos_y (h w c lo hi ot op ch : Int) (x : Addr) (on oc : Nat) (W : World) (slo shi : Int) (A B : Int) (hP : ∀ W', Below W.heap.size W W' → Calls Try.prog 9 #[.agg #[.int .i64 h, .int .i64 w, .int .i64 c, .int .i64 lo, .int .i64 hi, .slice (some x) on oc, .int .i64 ot], .int .i64 op, .int .i64 ch, .agg #[.int .i64 slo, .int .i64 shi]] W' fun e w' => e = .returned (.tuple #[.agg #[.int .i64 A, .int .i64 B], .int .i64 0]) ∧ Below W'.heap.size W' w') (hn : wiB (-32768) 32767 A B = true) (i : Nat) (hi0 : i < on) (hio : op = (i : Int) + 1) (hon : on ≤ 1000000) (k a b m kh kw sh sw tp lf bt rt : Int) (wa : Option Addr) (lw wc : Nat) (ba : Option Addr) (lb bc : Nat) (sm ss um us z p l0 h0 : Int) (hc : ∀ (q : Nat) (v : Value), (#[.int .i64 k, .int .i64 a, .int .i64 b, .int .i64 m, .int .i64 kh, .int .i64 kw, .int .i64 sh, .int .i64 sw, .int .i64 tp, .int .i64 lf, .int .i64 bt, .int .i64 rt, .slice wa lw wc, .slice ba lb bc, .int .i64 sm, .int .i64 ss, .int .i64 um, .int .i64 us, .int .i64 z, .int .i64 p, .int .i64 l0, .int .i64 h0]).toList[q]? = some v → W.cell? ((x.add (i * 22)).add q) = some v) (N : Nat) (hN : N ≤ 512) (S : Nat → Bool)
    (hLn : ∀ W', Calls Try.prog 19 #[.agg #[.int .i64 k, .int .i64 a, .int .i64 b, .int .i64 m, .int .i64 kh, .int .i64 kw, .int .i64 sh, .int .i64 sw, .int .i64 tp, .int .i64 lf, .int .i64 bt, .int .i64 rt, .slice wa lw wc, .slice ba lb bc, .int .i64 sm, .int .i64 ss, .int .i64 um, .int .i64 us, .int .i64 z, .int .i64 p, .int .i64 l0, .int .i64 h0]] W' fun e w' => e = .returned (.int .i64 (N : Int)) ∧ Below W'.heap.size W' w')
    (hSf : ∀ W' (d : Nat), Below W.heap.size W W' → 1 ≤ d → d ≤ N → Calls Try.prog 11 #[.agg #[.int .i64 h, .int .i64 w, .int .i64 c, .int .i64 lo, .int .i64 hi, .slice (some x) on oc, .int .i64 ot], .int .i64 op, .int .i64 ch, .agg #[.int .i64 slo, .int .i64 shi], .int .i64 (d : Int)] W' fun e w' => e = .returned (.tuple #[.bool (S d), .int .i64 0]) ∧ Below W'.heap.size W' w') :
    Calls Try.prog 7 #[.agg #[.int .i64 h, .int .i64 w, .int .i64 c, .int .i64 lo, .int .i64 hi, .slice (some x) on oc, .int .i64 ot], .int .i64 op, .int .i64 ch, .agg #[.int .i64 slo, .int .i64 shi]] W fun e w' => e = .returned (.tuple #[.int .i64 ((grN S N : Nat) : Int), .int .i64 0]) ∧ Below W.heap.size W w' := by
  have HP : Hid (∀ W', Below W.heap.size W W' → _) := hP
  have HW : Hid (∀ w, _) := fun w => dwit_any (-32768) 32767 A B w
  have H6 : Hid (∀ w, _) := fun w => d16_any w
  rw [hn] at HW
  have HL : Hid (∀ W', _) := hLn
  have HS : Hid (∀ W' (d : Nat), Below W.heap.size W W' → 1 ≤ d → d ≤ N → _) := hSf
  have HC : Hid (∀ (q : Nat) (v : Value), (#[.int .i64 k, .int .i64 a, .int .i64 b, .int .i64 m, .int .i64 kh, .int .i64 kw, .int .i64 sh, .int .i64 sw, .int .i64 tp, .int .i64 lf, .int .i64 bt, .int .i64 rt, .slice wa lw wc, .slice ba lb bc, .int .i64 sm, .int .i64 ss, .int .i64 um, .int .i64 us, .int .i64 z, .int .i64 p, .int .i64 l0, .int .i64 h0]).toList[q]? = some v → W.cell? ((x.add (i * 22)).add q) = some v) := hc
  have hmf : ∀ (fn : Fn) (first cap : Array Value) (w : World), (Instr.makeFunc fn first cap).run Try.prog w = .ok (.func fn first cap) w := fun _ _ _ _ => rfl
  have s0 := ((((St.start W).new (c := #[.int .i64 h, .int .i64 w, .int .i64 c, .int .i64 lo, .int .i64 hi, .slice (some x) on oc, .int .i64 ot]) (t := 26)).new (c := #[.int .i64 op]) (t := 3)).new (c := #[.int .i64 ch]) (t := 3)).new (c := #[.int .i64 slo, .int .i64 shi]) (t := 28)
  simp only [World.size_alloc] at s0
  subst hio
  clear hP hn hLn hSf hc
  go_enter Try.func7, Try.ntmps7
  go_wp2_with fail
  refine (HP.out _ s0.below).mono ?_
  rintro e w1 ⟨rfl, hb⟩
  have s1 := (s0.call hb).new (c := #[.int .i64 A, .int .i64 B]) (t := 28)
  clear hb s0 HP
  go_wp2_with fail
  obtain ⟨c1, g1, c2, g2, c3, g3, c4, g4, c5, g5, -⟩ := rulesQ_st s1
  have hne := Nonempty.intro (Wd.mk _ s1)
  refine region_held s1 (by kernel_rfl) (by kernel_rfl) ?_
  repeat (first
    | (go_big_quiet_step ((go_at_call 17; exact held_of (H6.out _))))
    | (go_big_quiet_step ((go_at_call 16; exact held_of (HW.out _)))))
  refine wpQuiet_nil ?_
  intro _ hw'
  obtain ⟨nq, rfl⟩ := hw'
  have s8 := nq.h
  obtain ⟨w8, hw8⟩ : ∃ w, nq.w = w := ⟨_, rfl⟩
  rw [hw8] at s8 ⊢
  clear c1 g1 c2 g2 c3 g3 c4 g4 c5 g5 hne s1 hw8 HW H6
  obtain ⟨c1, f1, z1, c2, f2, z2, c3, f3, z3, c4, f4, z4, c5, f5, z5, -⟩ := s8.rules
  have S8 : Hid (St W w8 _) := s8
  have HC8 : Hid (∀ (q : Nat) (v : Value), (#[.int .i64 k, .int .i64 a, .int .i64 b, .int .i64 m, .int .i64 kh, .int .i64 kw, .int .i64 sh, .int .i64 sw, .int .i64 tp, .int .i64 lf, .int .i64 bt, .int .i64 rt, .slice wa lw wc, .slice ba lb bc, .int .i64 sm, .int .i64 ss, .int .i64 um, .int .i64 us, .int .i64 z, .int .i64 p, .int .i64 l0, .int .i64 h0]).toList[q]? = some v → w8.cell? ((x.add (i * 22)).add q) = some v) := fun q v hq => (s8.below.cell (World.block_lt_of_cell? W _ (HC.out q v hq))).trans (HC.out q v hq)
  clear s8 HC
  go_wp2_with (refine wpList_load_any rfl 59 (.tmp 31) rfl (x.add (i * 22)) rfl (#[.int .i64 k, .int .i64 a, .int .i64 b, .int .i64 m, .int .i64 kh, .int .i64 kw, .int .i64 sh, .int .i64 sw, .int .i64 tp, .int .i64 lf, .int .i64 bt, .int .i64 rt, .slice wa lw wc, .slice ba lb bc, .int .i64 sm, .int .i64 ss, .int .i64 um, .int .i64 us, .int .i64 z, .int .i64 p, .int .i64 l0, .int .i64 h0]).toList _ HC8.out Try.underlying59 rfl (by kernel_rfl) ?_)
  refine (HL.out _).mono ?_
  rintro e w9 ⟨rfl, hb9⟩
  have s9 := S8.out.call hb9
  have HG : Hid _ := dgre_any N (by omega) S 20 #[.pointer (some ⟨W.heap.size, 0, none⟩), .pointer (some ⟨W.heap.size + 1, 0, none⟩), .pointer (some ⟨W.heap.size + 1 + 1, 0, none⟩), .pointer (some ⟨W.heap.size + 1 + 1 + 1, 0, none⟩)] w9 (enters_of Try.func20 (by kernel_rfl) rfl) (fun W' d hb h1 h2 => dclo_w h w c lo hi ot ((i : Int) + 1) ch (some x) on oc W' slo shi W.heap.size (W.heap.size + 1) (W.heap.size + 1 + 1) (W.heap.size + 1 + 1 + 1) ((s9.call hb).tail.h4) ((s9.call hb).tail.h3) ((s9.call hb).tail.h2) ((s9.call hb).tail.h1) d 0 (S d) (HS.out W' d ((s9.call hb).below) h1 h2))
  have S9 : Hid (St W w9 _) := s9
  clear hb9 s9 HL HS S8 HC8 c1 f1 z1 c2 f2 z2 c3 f3 z3 c4 f4 z4 c5 f5 z5
  go_wp2_with fail
  refine Calls.mono HG.out ?_
  rintro e w10 ⟨rfl, hb⟩
  have HB : Hid (Below W.heap.size W w10) := (S9.out.call hb).below
  clear hb S9 HG
  go_wp2
  exact bodyPost_ret (v := .tuple #[.int .i64 ((grN S N : Nat) : Int), .int .i64 0]) (by simp [results, Try.results7, go_sem]) rfl ⟨rfl, HB.out⟩
end Go.Proofs.Ytgiohlcipndakaa

/- What hull of package bound returns, whatever is taken. -/
namespace Go.Proofs.Ytgiohlcipndakaa
open Go.ChangeShapes Go.WideShapes Go.ChangeAt Go.RowKit Go.Shelf
set_option linter.unusedVariables false
attribute [local go_sem] Oper.semAt_some
theorem run_store_func {P : Program} {w : World} {a : Addr} {m : Mode} (fn : Fn) (f c : Array Value) : (store a (.func fn f c) m).run P w = stored P w a (.func fn f c) m := run_store P w a _ m rfl
attribute [local go_sem] run_store_func
/-- What is picked, position by position, as far as so many. -/
def piT (F : List (Int × Int) → List (Int × Int)) (R : Nat → List (Int × Int)) (N : Nat) : List (Int × Int) := (List.range N).flatMap fun k => F (R k)
theorem piT_succ (F : List (Int × Int) → List (Int × Int)) (R : Nat → List (Int × Int)) (k : Nat) : piT F R (k + 1) = piT F R k ++ F (R k) := by unfold piT; rw [List.range_succ, List.flatMap_append]; simp
theorem mem_piT {F : List (Int × Int) → List (Int × Int)} {R : Nat → List (Int × Int)} {N : Nat} {x : Int × Int} : x ∈ piT F R N ↔ ∃ k, k < N ∧ x ∈ F (R k) := by simp [piT]
/-- What a closure takes of a row. -/
def Pik (W : World) (gf : Nat) (cl : Array Value) (F : List (Int × Int) → List (Int × Int)) : Prop :=
  ∀ W' (v : Value) (E L : List (Int × Int)) (nb b : Nat), Below W.heap.size W W' → Rb E → 0 < E.length → E.length ≤ 512 → SpV W' v E → Nb nb v → b + 2 ≤ nb → Tk W' b L → (∀ y ∈ L, Vd 10000000000 y) → Calls Try.prog gf (#[v, fTk b] ++ cl) W' fun e w' => (∃ u, e = .returned u) ∧ Tk w' b (L ++ F E) ∧ Tch b W' w'
set_option maxRecDepth 100000 in
set_option maxHeartbeats 8000000 in
theorem bhull_any (q : Nat) (ch n ln bi slo shi p h w c : Int) (g0 : Nat) (R : Nat → List (Int × Int)) (N : Nat) (hn : n = (N : Int)) (hN : N ≤ 100000000) (F : List (Int × Int) → List (Int × Int)) (gf : Nat) (lb : Array Value) (W : World)
    (hq : W.heap[q]? = some (.cells #[.int .i64 ch, .int .i64 n, .int .i64 ln, .int .i64 bi, .int .i64 slo, .int .i64 shi, .int .i64 p, .int .i64 p, .int .i64 h, .int .i64 w, .int .i64 c, .int .i64 0, .int .i64 0, .slice (some ⟨g0, 0, none⟩) 1 1, .int .i64 0] 67 (0, 0)))
    (hE : ∀ W' (k : Nat), Below W.heap.size W W' → k < N → Calls Try.prog 61 #[.pointer (some ⟨q, 0, none⟩), .int .i64 (k : Int)] W' fun e w' => (∃ u, e = .returned u ∧ OSp w' W'.heap.size u (R k)) ∧ Below W'.heap.size W' w')
    (eg : ∀ args w, (callFunc gf args).run Try.prog w = .ok (.enter gf args) w)
    (hP : ∀ W' (v : Value) (k nb b : Nat) (L : List (Int × Int)), Below W.heap.size W W' → k < N → SpV W' v (R k) → Nb nb v → b + 2 ≤ nb → Tk W' b L → (∀ y ∈ L, Vd 10000000000 y) → Calls Try.prog gf (#[v, fTk b] ++ lb) W' fun e w' => (∃ u, e = .returned u) ∧ Tk w' b (L ++ F (R k)) ∧ Tch b W' w')
    (hF : ∀ k, k < N → ∀ x ∈ F (R k), Vd 10000000000 x) :
    Calls Try.prog 24 #[.pointer (some ⟨q, 0, none⟩), .func (.func gf) #[] lb] W fun e w' => e = .returned (.agg #[.int .i64 (huA (piT F R N)).1, .int .i64 (huA (piT F R N)).2]) ∧ Below W.heap.size W w' := by
  have HE : Hid (∀ W' (k : Nat), Below W.heap.size W W' → k < N → _) := hE
  have HP : Hid (∀ W' (v : Value) (k nb b : Nat) (L : List (Int × Int)), Below W.heap.size W W' → k < N → SpV W' v (R k) → Nb nb v → b + 2 ≤ nb → Tk W' b L → (∀ y ∈ L, Vd 10000000000 y) → _) := hP
  have HL : Hid (∀ k, k < N → ∀ y ∈ piT F R k, Vd 10000000000 y) := fun k hk y hy => by
    obtain ⟨j, hj, hy'⟩ := mem_piT.1 hy
    exact hF j (by omega) y hy'
  have HQ : Hid (W.heap[q]? = _) := hq
  have hqz := lt_of_heap hq
  have s0 := ((((St.start W).new (c := #[.func (.func gf) #[] lb]) (t := 73)).new (c := #[.int .i64 0, .int .i64 0]) (t := 28)).new (c := #[.int .i64 0, .int .i64 0]) (t := 28)).new (c := #[.bool false]) (t := 4)
  have s1 := s0.new (c := #[.func (.func 43) #[] #[.pointer (some ⟨W.heap.size + 1 + 1 + 1, 0, none⟩), .pointer (some ⟨W.heap.size + 1 + 1, 0, none⟩)]]) (t := 72)
  simp only [World.size_alloc] at s1
  clear s0
  have HN : Hid (n = (N : Int)) := hn
  clear hE hP hF hq hn
  unfold fTk at HP
  have hfn : ∀ f, Fence.wide.fn f := fun _ => trivial
  have hdp : Fence.wide.depth = none := rfl
  have hmf : ∀ (fn : Fn) (first cap : Array Value) (w : World), (Instr.makeFunc fn first cap).run Try.prog w = .ok (.func fn first cap) w := fun _ _ _ _ => rfl
  refine (callsIn_wide (n := 3)).1 ?_
  refine callsIn_of_wp_marks Try.func24 rfl trivial ?_ rfl
  simp only [Try.ntmps24, List.size_toArray, List.length_cons, List.length_nil, Nat.reduceAdd, Nat.reduceSub, Array.replicate_succ, Array.replicate_zero, List.push_toArray, List.append_toArray, List.nil_append, List.cons_append]
  refine wpIn_wide.2 ?_
  go_upto_region 4 with fail
  obtain ⟨w8, hw8⟩ : ∃ w8, ((((W.alloc (.cells #[.func (.func gf) #[] lb] 73)).alloc (.cells #[.int .i64 0, .int .i64 0] 28)).alloc (.cells #[.int .i64 0, .int .i64 0] 28)).alloc (.cells #[.bool false] 4)).alloc (.cells #[.func (.func 43) #[] #[.pointer (some ⟨W.heap.size + 1 + 1 + 1, 0, none⟩), .pointer (some ⟨W.heap.size + 1 + 1, 0, none⟩)]] 72) = w8 := ⟨_, rfl⟩
  rw [hw8] at s1 ⊢
  clear hw8
  obtain ⟨b, hb⟩ : ∃ b, W.heap.size + 1 + 1 = b := ⟨_, rfl⟩
  rw [hb] at s1 ⊢
  have T8 : Hid (Tk w8 b []) := ⟨(s1.tail.tail).h1, s1.tail.h1⟩
  have HS8 : Hid (St W w8 [(b + 1 + 1, #[.func (.func 43) #[] #[.pointer (some ⟨b + 1, 0, none⟩), .pointer (some ⟨b, 0, none⟩)]], 72), (W.heap.size + 1, #[.int .i64 0, .int .i64 0], 28), (W.heap.size, #[.func (.func gf) #[] lb], 73)]) := s1.sub fun x hx => by
    simp only [List.mem_cons, List.not_mem_nil, or_false] at hx ⊢
    rcases hx with h | h | h
    · exact .inl h
    · exact .inr (.inr (.inr (.inl h)))
    · exact .inr (.inr (.inr (.inr h)))
  have hB8 : b + 1 + 1 < w8.heap.size := lt_of_heap HS8.out.h1
  have hbW : W.heap.size + 2 = b := by omega
  clear s1 hb
  go_wp2_with fail
  refine (brows_any q W.heap.size ch n ln bi slo shi p h w c g0 R N HN.out hN w8 HS8.out.size hqz ((HS8.out.below.block q hqz).trans HQ.out) (fun W' k hb hk => HE.out W' k (HS8.out.below.trans hb) hk)).mono ?_
  rintro e w9 ⟨⟨lb', rfl, hsq⟩, hb9, hc9⟩
  have HSQ : Hid (Sq _ _ _ _ w9 _ _ _) := hsq
  have HS9 : Hid (St W w9 [(b + 1 + 1, #[.func (.func 43) #[] #[.pointer (some ⟨b + 1, 0, none⟩), .pointer (some ⟨b, 0, none⟩)]], 72), (W.heap.size + 1, #[.int .i64 0, .int .i64 0], 28), (W.heap.size, #[.func (.func gf) #[] lb], 73)]) := HS8.out.call hb9
  have HT9 : Hid (Tk w9 b []) := T8.out.below hb9
  have hz9 := hb9.size
  clear hsq hb9 hc9 HS8 T8
  go_wp2
  refine (wpIn_wide (n := 5)).1 ?_
  refine range_sq HSQ.out rfl rfl (by omega) HS9.out.size
    (fun k W' => St W W' [(b + 1 + 1, #[.func (.func 43) #[] #[.pointer (some ⟨b + 1, 0, none⟩), .pointer (some ⟨b, 0, none⟩)]], 72), (W.heap.size + 1, #[.int .i64 0, .int .i64 0], 28), (W.heap.size, #[.func (.func gf) #[] lb], 73)] ∧ Tk W' b (piT F R k) ∧ w8.heap.size ≤ W'.heap.size)
    ?own (fun _ _ _ => trivial) ⟨HS9.out, by simpa [piT] using HT9.out, hz9⟩ ?a₁ ?assign ?body ?done
  case own =>
    rintro k A B row ⟨h1, h2, h3⟩ hg hr
    have hz := HS9.out.size
    exact ⟨h1.turn hg (fun r e => ⟨by have := (hr r e).1; omega, (hr r e).2⟩), h2.turn hg (fun r e => (hr r e).2), Nat.le_trans h3 hg.size⟩
  case assign =>
    intro l x W' K hK
    gi_wp2
    exact hK
  case done =>
    rintro D W' hD ⟨h1, h2, h3⟩ hK
    have hz := HS9.out.size
    obtain ⟨m1, m2, hm⟩ : ∃ m1 m2, huA (piT F R N) = (m1, m2) := ⟨_, _, rfl⟩
    have HM : Hid (huA (piT F R N) = (m1, m2)) := hm
    have t1 := h2.1
    rw [hm] at t1
    simp only at t1
    obtain ⟨p1, p2, p3⟩ := cells_at t1
    have h1' := h1.tail
    obtain ⟨c1, f1, z1, -⟩ := h1'.rules
    have sF := (h1'.set2 (u := .int .i64 m1) (v := .int .i64 m2) (by simp)).turn (grownBy_putObj' _ D (.deferred none)) (fun r e => by cases e; exact ⟨by omega, _, (Below.heap_setCell _ _ _ _ (by show D ≠ W.heap.size + 1; omega)).trans ((Below.heap_setCell _ _ _ _ (by show D ≠ W.heap.size + 1; omega)).trans hK), rfl⟩)
    obtain ⟨cF, -⟩ := sF.rules
    have HFb : Hid (Below W.heap.size W _) := sF.below
    clear h1 h1' h2 sF hm t1
    go_wp2
    refine ⟨by simp, .inl ⟨_, _, rfl, run_takeDeferred ((Below.heap_setCell _ _ _ _ (by show D ≠ W.heap.size + 1; omega)).trans ((Below.heap_setCell _ _ _ _ (by show D ≠ W.heap.size + 1; omega)).trans hK)), ?_⟩⟩
    exact ⟨.agg #[.int .i64 m1, .int .i64 m2], by simp [results, Try.f24, go_sem, cF], by rw [HM.out], HFb.out⟩
  case body =>
    rintro l k x W' ⟨h1, h2, h3⟩ hk hx hxn
    obtain ⟨c1, f1, z1, c2, f2, z2, c3, f3, z3, -⟩ := h1.rules
    have HC : Hid _ := HP.out W' x k w8.heap.size b (piT F R k) h1.below hk hx hxn (by omega) h2 (HL.out k hk)
    have H1 : Hid (St W W' [(b + 1 + 1, #[.func (.func 43) #[] #[.pointer (some ⟨b + 1, 0, none⟩), .pointer (some ⟨b, 0, none⟩)]], 72), (W.heap.size + 1, #[.int .i64 0, .int .i64 0], 28), (W.heap.size, #[.func (.func gf) #[] lb], 73)]) := h1
    have HPs : Hid (piT F R (k + 1) = piT F R k ++ F (R k)) := piT_succ F R k
    obtain ⟨xa, xc, hxe, -⟩ := hx
    subst hxe
    clear h1 h2 HSQ HS9 HT9
    gi_wp2_with fail
    refine (CallsIn.inRound l (callsIn_wide.2 HC.out)).mono ?_
    rintro e w1 ⟨⟨u, rfl⟩, tk1, tc1⟩
    have S1 : Hid (St W w1 [(b + 1 + 1, #[.func (.func 43) #[] #[.pointer (some ⟨b + 1, 0, none⟩), .pointer (some ⟨b, 0, none⟩)]], 72), (W.heap.size + 1, #[.int .i64 0, .int .i64 0], 28), (W.heap.size, #[.func (.func gf) #[] lb], 73)]) := H1.out.tch tc1 (by omega) (by simp; omega)
    have T1 : Hid (Tk w1 b (piT F R (k + 1))) := by unfold Hid; rw [HPs.out]; exact tk1
    have K1 : Hid (Tch b W' w1) := tc1
    have hs1 := H1.out.size
    clear HC H1 tk1 tc1 c1 f1 z1 c2 f2 z2 c3 f3 z3 hxn
    gi_wp2
    have hz9' := K1.out.size
    exact ⟨K1.out.from (by omega), K1.out.kps (by omega) hs1 (by simp; omega), S1.out, T1.out, by omega⟩
end Go.Proofs.Ytgiohlcipndakaa

/- Slices of structs that came in, opened. -/
namespace Go.Proofs.Ytgiohlcipndakaa
open Go.ChangeShapes Go.WideShapes Go.ChangeAt Go.RowKit Go.Deep
/-- A slice of structs: each element's cells. -/
def ORow (nc : Nat) (R : List Value → Prop) (w : World) (a : Option Addr) (len cap : Nat) : Prop :=
  len ≤ cap ∧ cap ≤ maxLen ∧ (a = none → cap = 0) ∧ ∀ x, a = some x → ∀ i, i < len → ∃ cs, cs.length = nc ∧ R cs ∧ ∀ j, j < nc → w.cell? (x.add (i * nc + j)) = cs[j]?
theorem openO {H : Type} {enc : TypeId × Value → H} {W : World} {fuel : Nat} {a : Option Addr} {len cap : Nat} {d : DataW H} {p : List MemPlace} {t e : TypeId} {nc : Nat} (R : List Value → Prop)
    (ht : Try.prog.underlying t = some (.slice e)) (ce : Try.prog.cellsOf e = nc) (hR : ∀ n cs x, DataW.trod enc Try.prog W 0 (fun _ => true) true n e cs = some x → R cs)
    (hf : DataW.trod enc Try.prog W 0 (fun _ => true) true fuel t (Value.slice a len cap).cells.toList = some (d, p)) : ORow nc R W a len cap ∧ Holds H d len := by
  rcases open_slice ht hf with ⟨hcs, hx⟩ | ⟨x, l, c, m, n, D, Pl, hcs, hb, hl, hm, hmm, hx, hcell⟩
  · simp [Value.cells] at hcs
    obtain ⟨rfl, rfl, rfl⟩ := hcs
    simp only [Prod.mk.injEq] at hx
    exact ⟨⟨Nat.le_refl _, by unfold maxLen; omega, fun _ => rfl, fun x h => by cases h⟩, .inl ⟨hx.1, rfl⟩⟩
  · simp [Value.cells] at hcs
    obtain ⟨rfl, rfl, rfl⟩ := hcs
    simp only [Prod.mk.injEq] at hx
    simp only [if_true] at hmm
    refine ⟨⟨hl, hm, fun h => (by cases h), fun y hy i hi => ?_⟩, .inr ⟨_, _, hx.1, by simp⟩⟩
    obtain rfl := Option.some.inj hy
    obtain ⟨cs, h1, h2⟩ := hcell i (by omega)
    rw [ce] at h1
    obtain ⟨_, hlen, hc⟩ := World.cells?_some h1
    refine ⟨cs, hlen, hR _ _ _ h2, fun j hj => ?_⟩
    have := hc j (by omega)
    rw [Addr.add_add] at this
    rw [this, List.getElem?_eq_getElem (by omega)]
end Go.Proofs.Ytgiohlcipndakaa

/- Readings whose every list is within the reach: slices of integers, and slices of structs that hold slices, opened with that. -/
namespace Go.Proofs.Ytgiohlcipndakaa
open Go.ChangeShapes Go.WideShapes Go.ChangeAt Go.RowKit Go.Deep
/-- Each list of a reading is within the reach. -/
def Sz {H : Type} (t : TypeId) (d : DataW H) : Prop := ∀ n ∈ d.weights Try.prog t, n ≤ reachBytes
theorem weightsEach_mem {H : Type} : ∀ {ts : List TypeId} {ds : List (DataW H)} {n : Nat}, n ∈ DataW.weightsEach Try.prog ts ds → ∃ (j : Nat) (t : TypeId) (d : DataW H), ts[j]? = some t ∧ ds[j]? = some d ∧ n ∈ d.weights Try.prog t
  | t :: ts, d :: ds, n, h => by
    simp only [DataW.weightsEach, List.mem_append] at h
    rcases h with h | h
    · exact ⟨0, t, d, rfl, rfl, h⟩
    · obtain ⟨j, t', d', h1, h2, h3⟩ := weightsEach_mem h
      exact ⟨j + 1, t', d', h1, h2, h3⟩
  | [], _, _, h => by simp [DataW.weightsEach] at h
  | _ :: _, [], _, h => by simp [DataW.weightsEach] at h
theorem weightsAll_mem {H : Type} {e : TypeId} : ∀ {ds : List (DataW H)} {d : DataW H}, d ∈ ds → ∀ n ∈ d.weights Try.prog e, n ∈ DataW.weightsAll Try.prog e ds
  | x :: r, d, hd, n, hn => by
    simp only [DataW.weightsAll, List.mem_append]
    rcases List.mem_cons.1 hd with rfl | hd
    · exact .inl hn
    · exact .inr (weightsAll_mem hd n hn)
/-- An argument's. -/
theorem sz_arg {H : Type} {ts : List TypeId} {ds : List (DataW H)} (h : (DataW.weightsEach Try.prog ts ds).all (· ≤ reachBytes) = true) {j : Nat} {t : TypeId} {d : DataW H} (ht : ts[j]? = some t) (hd : ds[j]? = some d) : Sz t d := fun n hn => by
  simpa using List.all_eq_true.1 h n (DataW.weights_mem_each ht hd n hn)
theorem Sz.slice {H : Type} {t e : TypeId} {el sp : List (DataW H)} (h : Sz t (.slice el sp)) (hu : Try.prog.underlying t = some (.slice e)) : (el.length + sp.length) * Try.prog.bytesOf e ≤ reachBytes ∧ ∀ x ∈ el, Sz e x := by
  refine ⟨h _ (by simp [DataW.weights, hu]), fun x hx n hn => h n ?_⟩
  simp only [DataW.weights, hu]
  exact List.mem_cons_of_mem _ (List.mem_append_left _ (weightsAll_mem hx n hn))
theorem Sz.part {H : Type} {t : TypeId} {fs : Array Field} {ps : List (DataW H)} (h : Sz t (.agg ps)) (hu : Try.prog.underlying t = some (.struct fs)) {j : Nat} {f : Field} {d : DataW H} (hf : fs[j]? = some f) (hd : ps[j]? = some d) : Sz f.type d := fun n hn => by
  refine h n ?_
  simp only [DataW.weights, hu]
  refine DataW.weights_mem_each (j := j) ?_ hd n hn
  rw [List.getElem?_map, Array.getElem?_toList, hf]
  rfl
/-- A slice of integers, and its reach. -/
theorem openIz {H : Type} {enc : TypeId × Value → H} {W : World} {fuel : Nat} {a : Option Addr} {len cap : Nat} {d : DataW H} {p : List MemPlace} {t e : TypeId} {k : IntKind} {b : Nat}
    (ht : Try.prog.underlying t = some (.slice e)) (he : Try.prog.underlying e = some (.int k)) (hc : Try.prog.cellsOf e = 1) (hb : Try.prog.bytesOf e = b)
    (hf : DataW.trod enc Try.prog W 0 (fun _ => true) true fuel t (Value.slice a len cap).cells.toList = some (d, p)) (hs : Sz t d) : ∃ zs, IRow k W a len cap zs ∧ len * b ≤ 140737488351232 := by
  obtain ⟨zs, h1, h2⟩ := openI ht he hc hf
  refine ⟨zs, h1, ?_⟩
  rcases h2 with ⟨_, h0⟩ | ⟨el, sp, rfl, hl⟩
  · rw [h0]; omega
  · have := (hs.slice ht).1
    rw [hb, hl] at this
    simp only [reachBytes] at this
    have e2 : len * b ≤ (len + sp.length) * b := Nat.mul_le_mul_right _ (by omega)
    omega
/-- A field that is a slice, whatever its cells are. -/
theorem openF {H : Type} {enc : TypeId × Value → H} {W : World} {fuel : Nat} {cs : List Value} {x : DataW H × List MemPlace} {t e : TypeId} {k : IntKind} {b : Nat}
    (ht : Try.prog.underlying t = some (.slice e)) (he : Try.prog.underlying e = some (.int k)) (hc : Try.prog.cellsOf e = 1) (hb : Try.prog.bytesOf e = b)
    (hf : DataW.trod enc Try.prog W 0 (fun _ => true) true fuel t cs = some x) (hs : Sz t x.1) : ∃ a len cap zs, cs = [.slice a len cap] ∧ IRow k W a len cap zs ∧ len * b ≤ 140737488351232 := by
  rcases open_slice ht hf with ⟨rfl, _⟩ | ⟨a, l, c, m, n, D, Pl, rfl, _⟩
  · obtain ⟨zs, h1, h2⟩ := openIz (a := none) (len := 0) (cap := 0) (d := x.1) (p := x.2) ht he hc hb hf hs
    exact ⟨none, 0, 0, zs, rfl, h1, h2⟩
  · obtain ⟨zs, h1, h2⟩ := openIz (a := some a) (len := l) (cap := c) (d := x.1) (p := x.2) ht he hc hb hf hs
    exact ⟨some a, l, c, zs, rfl, h1, h2⟩
/-- A slice of structs that may hold slices. -/
theorem openOz {H : Type} {enc : TypeId × Value → H} {W : World} {fuel : Nat} {a : Option Addr} {len cap : Nat} {d : DataW H} {p : List MemPlace} {t e : TypeId} {nc b : Nat} (R : List Value → Prop)
    (ht : Try.prog.underlying t = some (.slice e)) (ce : Try.prog.cellsOf e = nc) (hb : Try.prog.bytesOf e = b) (hR : ∀ n cs x, DataW.trod enc Try.prog W 0 (fun _ => true) true n e cs = some x → Sz e x.1 → R cs)
    (hf : DataW.trod enc Try.prog W 0 (fun _ => true) true fuel t (Value.slice a len cap).cells.toList = some (d, p)) (hs : Sz t d) : ORow nc R W a len cap ∧ len * b ≤ 140737488351232 := by
  rcases open_slice ht hf with ⟨hcs, hx⟩ | ⟨x, l, c, m, n, D, Pl, hcs, _, hl, hm, hmm, hx, hcell⟩
  · simp [Value.cells] at hcs
    obtain ⟨rfl, rfl, rfl⟩ := hcs
    exact ⟨⟨Nat.le_refl _, by unfold maxLen; omega, fun _ => rfl, fun x h => by cases h⟩, by omega⟩
  · simp [Value.cells] at hcs
    obtain ⟨rfl, rfl, rfl⟩ := hcs
    simp only [Prod.mk.injEq] at hx
    simp only [if_true] at hmm
    obtain ⟨rfl, -⟩ := hx
    obtain ⟨hz, hz2⟩ := hs.slice ht
    refine ⟨⟨hl, hm, fun h => (by cases h), fun y hy i hi => ?_⟩, ?_⟩
    · obtain rfl := Option.some.inj hy
      obtain ⟨cs, h1, h2⟩ := hcell i (by omega)
      rw [ce] at h1
      obtain ⟨_, hlen, hc⟩ := World.cells?_some h1
      refine ⟨cs, hlen, hR _ _ _ h2 (hz2 _ (List.mem_map.2 ⟨i, by simpa using hi, rfl⟩)), fun j hj => ?_⟩
      have := hc j (by omega)
      rw [Addr.add_add] at this
      exact this
    · rw [hb] at hz
      simp only [List.length_map, List.length_range, reachBytes] at hz
      have e2 : len * b ≤ (len + (m - len)) * b := Nat.mul_le_mul_right _ (by omega)
      omega
/-- A field that is a slice of such structs. -/
theorem openFo {H : Type} {enc : TypeId × Value → H} {W : World} {fuel : Nat} {cs : List Value} {x : DataW H × List MemPlace} {t e : TypeId} {nc b : Nat} (R : List Value → Prop)
    (ht : Try.prog.underlying t = some (.slice e)) (ce : Try.prog.cellsOf e = nc) (hb : Try.prog.bytesOf e = b) (hR : ∀ n cs x, DataW.trod enc Try.prog W 0 (fun _ => true) true n e cs = some x → Sz e x.1 → R cs)
    (hf : DataW.trod enc Try.prog W 0 (fun _ => true) true fuel t cs = some x) (hs : Sz t x.1) : ∃ a len cap, cs = [.slice a len cap] ∧ ORow nc R W a len cap ∧ len * b ≤ 140737488351232 := by
  rcases open_slice ht hf with ⟨rfl, _⟩ | ⟨a, l, c, m, n, D, Pl, rfl, _⟩
  · have := openOz (a := none) (len := 0) (cap := 0) (d := x.1) (p := x.2) R ht ce hb hR hf hs
    exact ⟨none, 0, 0, rfl, this⟩
  · have := openOz (a := some a) (len := l) (cap := c) (d := x.1) (p := x.2) R ht ce hb hR hf hs
    exact ⟨some a, l, c, rfl, this⟩
end Go.Proofs.Ytgiohlcipndakaa

/- Fronts of models in plain numbers; what is known of each op of a well-formed model; ops that came in. -/
namespace Go.Proofs.Ytgiohlcipndakaa
open Go.ChangeShapes Go.WideShapes Go.ChangeAt Go.RowKit
set_option linter.unusedVariables false
theorem stG_step {O : Nat → Nat → Int} {s0 : Int × Int × Int} {n : Nat} {L : List (Int × Int × Int)} {wk : Int} (h : stG O s0 (n + 1) = (0, 0, L, wk)) :
    ∃ L0 wk0, stG O s0 n = (0, 0, L0, wk0) ∧ oT (O n) L0 wk0 = 0 ∧ L = L0 ++ [oM (O n) L0] ∧ wk = wk0 + oW (O n) L0 := by
  obtain ⟨e, t, L0, wk0, h0⟩ : ∃ e t L0 wk0, stG O s0 n = (e, t, L0, wk0) := ⟨_, _, _, _, rfl⟩
  by_cases he : e = 0
  · have ht : t = 0 := stG_at0 h0 he
    subst he ht
    by_cases hx : oT (O n) L0 wk0 = 0
    · rw [stG_ok h0 hx] at h
      simp only [Prod.mk.injEq, true_and] at h
      exact ⟨L0, wk0, h0, hx, h.1.symm, h.2.symm⟩
    · rw [stG_err h0 rfl hx] at h
      simp only [Prod.mk.injEq] at h
      exact absurd h.1 hx
  · have := stG_bad (O := O) (s0 := s0) (i := n) (by rw [h0]; exact he) 1
    rw [h, h0] at this
    simp only [Prod.mk.injEq] at this
    exact absurd this.1.symm he
theorem stG_pre {O : Nat → Nat → Int} {s0 : Int × Int × Int} (hs : vS3 s0 = true) : ∀ (n : Nat) (L : List (Int × Int × Int)) (wk : Int), stG O s0 n = (0, 0, L, wk) → ∀ i, i ≤ n → ∃ wi, stG O s0 i = (0, 0, L.take (i + 1), wi) ∧ 0 ≤ wi ∧ wi ≤ wk
  | 0, L, wk, h, i, hi => by
    obtain rfl : i = 0 := by omega
    obtain ⟨h1, -, h3, -⟩ := stG_inv hs 0 L wk h
    exact ⟨wk, by rw [List.take_of_length_le (by omega)]; exact h, h3, Int.le_refl _⟩
  | n + 1, L, wk, h, i, hi => by
    obtain ⟨h1, -, h3, -⟩ := stG_inv hs (n + 1) L wk h
    by_cases e : i = n + 1
    · subst e
      exact ⟨wk, by rw [List.take_of_length_le (by omega)]; exact h, h3, Int.le_refl _⟩
    · obtain ⟨L0, wk0, h0, hx, hL, hw⟩ := stG_step h
      obtain ⟨i1, i2, i3, i4⟩ := stG_inv hs n L0 wk0 h0
      obtain ⟨wi, g1, g2, g3⟩ := stG_pre hs n L0 wk0 h0 i (by omega)
      obtain ⟨-, t2, -, -⟩ := tk_0 hx i2
      have t2' : 0 ≤ oW (O n) L0 := t2
      refine ⟨wi, ?_, g2, by omega⟩
      rw [g1, hL, List.take_append_of_le_length (by omega)]
theorem stG_fault {O : Nat → Nat → Int} {s0 : Int × Int × Int} : ∀ (n : Nat) (e t : Int) (L : List (Int × Int × Int)) (wk : Int), stG O s0 n = (e, t, L, wk) → e ≠ 0 → L = [] ∧ wk = 0 ∧ ∃ j, j < n ∧ t = (j : Int) + 1 ∧ ∃ L' wk', stG O s0 j = (0, 0, L', wk')
  | 0, e, t, L, wk, h, he => by
    unfold stG at h
    simp only [Prod.mk.injEq] at h
    exact absurd h.1.symm he
  | n + 1, e, t, L, wk, h, he => by
    obtain ⟨e0, t0, L0, wk0, h0⟩ : ∃ e t L0 wk0, stG O s0 n = (e, t, L0, wk0) := ⟨_, _, _, _, rfl⟩
    by_cases hb : e0 = 0
    · have ht : t0 = 0 := stG_at0 h0 hb
      subst hb ht
      by_cases hx : oT (O n) L0 wk0 = 0
      · rw [stG_ok h0 hx] at h
        simp only [Prod.mk.injEq] at h
        exact absurd h.1.symm he
      · rw [stG_err h0 rfl hx] at h
        simp only [Prod.mk.injEq] at h
        exact ⟨h.2.2.1.symm, h.2.2.2.symm, n, by omega, h.2.1.symm, L0, wk0, h0⟩
    · have := stG_bad (O := O) (s0 := s0) (i := n) (by rw [h0]; exact hb) 1
      rw [h, h0] at this
      simp only [Prod.mk.injEq] at this
      obtain ⟨rfl, rfl, rfl, rfl⟩ := this
      obtain ⟨a1, a2, j, a3, a4⟩ := stG_fault n e t L wk h0 he
      exact ⟨a1, a2, j, by omega, a4⟩
theorem ouE_front {h w c lo hi ot : Int} {on j : Nat} (q : ouE h w c lo hi ot on = 0) (hj : j ≤ on) : ouE h w c lo hi (j : Int) j = 0 := by
  obtain ⟨a1, a2, a3, -, -⟩ := ouE_0 q
  unfold ouE
  rw [if_neg (by rw [a1]; decide), if_neg (by rw [a2]; decide), if_neg (by omega), if_neg (by omega)]
theorem gtR_of {O : Nat → Nat → Int} {h w c lo hi ot : Int} {on : Nat} (q : ouE h w c lo hi ot on = 0) : gtR O h w c lo hi ot on = stG O (h, w, c) on := by unfold gtR; rw [q, if_neg (by decide)]
/-- A model that isn't well-formed. -/
theorem gtR_err {O : Nat → Nat → Int} {h w c lo hi ot e t wk : Int} {on : Nat} {L : List (Int × Int × Int)} (q : gtR O h w c lo hi ot on = (e, t, L, wk)) (he : e ≠ 0) :
    L = [] ∧ wk = 0 ∧ (t = 0 ∨ ∃ j : Nat, j < on ∧ on ≤ 64 ∧ t = (j : Int) + 1 ∧ ∃ L' wk', gtR O h w c lo hi (j : Int) j = (0, 0, L', wk')) := by
  by_cases hx : ouE h w c lo hi ot on = 0
  · rw [gtR_of hx] at q
    obtain ⟨a1, a2, j, a3, a4, L', wk', a5⟩ := stG_fault on e t L wk q he
    exact ⟨a1, a2, .inr ⟨j, a3, (ouE_0 hx).2.2.1, a4, L', wk', by rw [gtR_of (ouE_front hx (by omega))]; exact a5⟩⟩
  · unfold gtR at q
    rw [if_pos hx] at q
    simp only [Prod.mk.injEq] at q
    exact ⟨q.2.2.1.symm, q.2.2.2.symm, .inl q.2.1.symm⟩
theorem gtR_st {O : Nat → Nat → Int} {h w c lo hi ot t wk : Int} {on : Nat} {L : List (Int × Int × Int)} (q : gtR O h w c lo hi ot on = (0, t, L, wk)) : ouE h w c lo hi ot on = 0 ∧ t = 0 ∧ stG O (h, w, c) on = (0, 0, L, wk) := by
  by_cases hx : ouE h w c lo hi ot on = 0
  · rw [gtR_of hx] at q
    have ht := stG_at0 q rfl
    subst ht
    exact ⟨hx, rfl, q⟩
  · unfold gtR at q
    rw [if_pos hx] at q
    simp only [Prod.mk.injEq] at q
    exact absurd q.1 hx
/-- A well-formed model, and its fronts. -/
theorem gtR_ok {O : Nat → Nat → Int} {h w c lo hi ot t wk : Int} {on : Nat} {L : List (Int × Int × Int)} (q : gtR O h w c lo hi ot on = (0, t, L, wk)) :
    t = 0 ∧ L.length = on + 1 ∧ on ≤ 64 ∧ 0 ≤ wk ∧ wk ≤ 131072 ∧ ∀ k : Nat, k ≤ on → ∃ wi, gtR O h w c lo hi (k : Int) k = (0, 0, L.take (k + 1), wi) ∧ 0 ≤ wi ∧ wi ≤ wk := by
  obtain ⟨hx, rfl, q2⟩ := gtR_st q
  clear q
  have q := q2
  have hv : vS3 (h, w, c) = true := (ouE_0 hx).1
  obtain ⟨h1, -, h3, h4⟩ := stG_inv hv on L wk q
  refine ⟨rfl, h1, (ouE_0 hx).2.2.1, h3, h4, fun k hk => ?_⟩
  obtain ⟨wi, g1, g2⟩ := stG_pre hv on L wk q k hk
  exact ⟨wi, by rw [gtR_of (ouE_front hx hk)]; exact g1, g2⟩
theorem mkE_parts {k m kh kw sh sw tp lf bt rt h w c : Int} (hx : mkE k m kh kw sh sw tp lf bt rt h w c = 0) : mkW k kh kw sh sw tp lf bt rt h w c = 0 := by
  unfold mkE at hx
  by_cases hM : mkM k m = false
  · rw [if_pos hM] at hx; cases hx
  · rw [if_neg hM] at hx
    by_cases hw : mkW k kh kw sh sw tp lf bt rt h w c ≠ 0
    · rw [if_pos hw] at hx; exact absurd hx hw
    · exact Decidable.not_not.1 hw
/-- What is known of one op's shapes: A's and its own. -/
def OpFit (k kh kw sh sw tp lf bt rt : Int) (A B : Int × Int × Int) : Prop :=
  vS B.1 B.2.1 B.2.2 = true ∧ (2 ≤ k ∧ k ≤ 5 → ouR A.1 A.2.1 A.2.2 kh kw sh sw tp lf bt rt = (B.1, B.2.1, 0) ∧ (k ≠ 2 → B.2.2 = A.2.2)) ∧ (6 ≤ k → B = A)
theorem fit_of {k m kh kw sh sw tp lf bt rt : Int} {A : Int × Int × Int} (hx : mkE k m kh kw sh sw tp lf bt rt A.1 A.2.1 A.2.2 = 0) (hv : vS3 (mk3 k m kh kw sh sw tp lf bt rt A) = true) : OpFit k kh kw sh sw tp lf bt rt A (mk3 k m kh kw sh sw tp lf bt rt A) := by
  refine ⟨hv, fun hk => ?_, fun hk => ?_⟩
  · have hw := mkE_parts hx
    unfold mkW at hw
    rw [if_pos hk] at hw
    obtain ⟨r, q, e, ho⟩ : ∃ r q e, ouR A.1 A.2.1 A.2.2 kh kw sh sw tp lf bt rt = (r, q, e) := ⟨_, _, _, rfl⟩
    rw [ho] at hw
    simp only at hw
    subst hw
    by_cases k2 : k = 2
    · have hm : mk3 k m kh kw sh sw tp lf bt rt A = (r, q, m) := by unfold mk3 mkS; rw [if_neg (by omega), if_pos k2, ho]
      rw [hm]
      exact ⟨ho, fun h => absurd k2 h⟩
    · have hm : mk3 k m kh kw sh sw tp lf bt rt A = (r, q, A.2.2) := by unfold mk3 mkS; rw [if_neg (by omega), if_neg k2, if_pos (by omega), ho]
      rw [hm]
      exact ⟨ho, fun _ => rfl⟩
  · unfold mk3 mkS
    rw [if_neg (by omega), if_neg (by omega), if_neg (by omega)]
theorem ShA_take {L : List (Int × Int × Int)} {i n : Nat} (h : i < n) : ShA (L.take n) (i : Int) = ShA L (i : Int) := by
  unfold ShA
  rw [Int.toNat_natCast]
  simp [List.getD, h]
/-- Each op of a well-formed model. -/
theorem gtR_at {O : Nat → Nat → Int} {h w c lo hi ot t wk : Int} {on : Nat} {L : List (Int × Int × Int)} (q : gtR O h w c lo hi ot on = (0, t, L, wk)) :
    ShA L ((0 : Nat) : Int) = (h, w, c) ∧ ∀ i, i < on → ∃ j : Nat, O i 1 = (j : Int) ∧ j ≤ i ∧ OpFit (O i 0) (O i 4) (O i 5) (O i 6) (O i 7) (O i 8) (O i 9) (O i 10) (O i 11) (ShA L (j : Int)) (ShA L ((i + 1 : Nat) : Int)) := by
  obtain ⟨hx, rfl, q2⟩ := gtR_st q
  clear q
  have q := q2
  have hv : vS3 (h, w, c) = true := (ouE_0 hx).1
  refine ⟨?_, fun i hi => ?_⟩
  · obtain ⟨wi, g1, -⟩ := stG_pre hv on L wk q 0 (by omega)
    unfold stG at g1
    simp only [Prod.mk.injEq, true_and] at g1
    rw [← ShA_take (n := 0 + 1) (by omega), ← g1.1]
    rfl
  · obtain ⟨wi, g1, -⟩ := stG_pre hv on L wk q (i + 1) (by omega)
    obtain ⟨L0, wk0, h0, hx0, hL, -⟩ := stG_step g1
    obtain ⟨w2, g2, -⟩ := stG_pre hv on L wk q i (by omega)
    rw [g2] at h0
    simp only [Prod.mk.injEq, true_and] at h0
    obtain ⟨rfl, rfl⟩ := h0
    obtain ⟨i1, i2, -⟩ := stG_inv hv i _ _ g2
    obtain ⟨t1, -, -, ⟨a0, a1⟩, -, t6⟩ := tk_0 hx0 i2
    obtain ⟨j, hj⟩ := Int.eq_ofNat_of_zero_le a0
    rw [hj] at a1 t1 t6
    refine ⟨j, hj, by omega, ?_⟩
    have e1 : ShA (L.take (i + 1)) (j : Int) = ShA L (j : Int) := ShA_take (by omega)
    have e2 : ShA L ((i + 1 : Nat) : Int) = mk3 (O i 0) (O i 3) (O i 4) (O i 5) (O i 6) (O i 7) (O i 8) (O i 9) (O i 10) (O i 11) (ShA L (j : Int)) := by
      rw [← ShA_take (n := i + 1 + 1) (by omega), hL]
      unfold ShA at e1 ⊢
      rw [Int.toNat_natCast]
      simp only [List.getD]
      rw [List.getElem?_append_right (by omega), i1, Nat.sub_self]
      unfold oM ShA
      rw [hj, Int.toNat_natCast]
      rw [Int.toNat_natCast] at e1
      simp only [List.getElem?_cons_zero, Option.getD_some]
      rw [e1]
      rfl
    rw [e1] at t1 t6
    rw [e2]
    exact fit_of t6 t1
/-! ### Ops that came in -/
def OpIn (w : World) (cs : List Value) : Prop :=
  ∃ (b0 : Int) (b1 : Int) (b2 : Int) (b3 : Int) (b4 : Int) (b5 : Int) (b6 : Int) (b7 : Int) (b8 : Int) (b9 : Int) (b10 : Int) (b11 : Int) (b12 : Option Addr) (l12 c12 : Nat) (z12 : List Int) (b13 : Option Addr) (l13 c13 : Nat) (z13 : List Int) (b14 : Int) (b15 : Int) (b16 : Int) (b17 : Int) (b18 : Int) (b19 : Int) (b20 : Int) (b21 : Int), cs = [.int .i64 b0, .int .i64 b1, .int .i64 b2, .int .i64 b3, .int .i64 b4, .int .i64 b5, .int .i64 b6, .int .i64 b7, .int .i64 b8, .int .i64 b9, .int .i64 b10, .int .i64 b11, .slice b12 l12 c12, .slice b13 l13 c13, .int .i64 b14, .int .i64 b15, .int .i64 b16, .int .i64 b17, .int .i64 b18, .int .i64 b19, .int .i64 b20, .int .i64 b21] ∧
    (Lit.int .i64 b0).wf = true ∧ (Lit.int .i64 b1).wf = true ∧ (Lit.int .i64 b2).wf = true ∧ (Lit.int .i64 b3).wf = true ∧ (Lit.int .i64 b4).wf = true ∧ (Lit.int .i64 b5).wf = true ∧ (Lit.int .i64 b6).wf = true ∧ (Lit.int .i64 b7).wf = true ∧ (Lit.int .i64 b8).wf = true ∧ (Lit.int .i64 b9).wf = true ∧ (Lit.int .i64 b10).wf = true ∧ (Lit.int .i64 b11).wf = true ∧
    IRow .i16 w b12 l12 c12 z12 ∧ l12 * 2 ≤ 140737488351232 ∧ IRow .i32 w b13 l13 c13 z13 ∧ l13 * 4 ≤ 140737488351232 ∧
    (Lit.int .i64 b14).wf = true ∧ (Lit.int .i64 b15).wf = true ∧ (Lit.int .i64 b16).wf = true ∧ (Lit.int .i64 b17).wf = true ∧ (Lit.int .i64 b18).wf = true ∧ (Lit.int .i64 b19).wf = true ∧ (Lit.int .i64 b20).wf = true ∧ (Lit.int .i64 b21).wf = true
/-- One op in memory, with its lists. -/
def LOp (w : World) (x : Addr) (o : Nat → Int) (z b : List Int) : Prop :=
  ∃ (wa : Option Addr) (lw cw : Nat) (ba : Option Addr) (lb cb : Nat), o 12 = (lw : Int) ∧ o 13 = (lb : Int) ∧ (∀ j v, (opl o wa lw cw ba lb cb)[j]? = some v → w.cell? (x.add j) = some v) ∧ IRow .i16 w wa lw cw z ∧ IRow .i32 w ba lb cb b ∧ lw * 2 ≤ 140737488351232 ∧ lb * 4 ≤ 140737488351232
/-- Ops in memory, with their lists. -/
def LRow (w : World) (oa : Option Addr) (on oc : Nat) (O : Nat → Nat → Int) (Z B : Nat → List Int) : Prop :=
  on ≤ oc ∧ oc ≤ maxLen ∧ (oa = none → oc = 0) ∧ ∀ x, oa = some x → ∀ i, i < on → LOp w (x.add (i * 22)) (O i) (Z i) (B i)
theorem LRow.m {w : World} {oa : Option Addr} {on oc : Nat} {O : Nat → Nat → Int} {Z B : Nat → List Int} (h : LRow w oa on oc O Z B) : MRow w oa on oc O :=
  ⟨h.1, h.2.1, h.2.2.1, fun x hx i hi => by
    obtain ⟨wa, lw, cw, ba, lb, cb, h1, h2, h3, -⟩ := h.2.2.2 x hx i hi
    exact ⟨wa, lw, cw, ba, lb, cb, h1, h2, fun j v hj => by rw [← Addr.add_add]; exact h3 j v hj⟩⟩
theorem LOp.below {w w' : World} {x : Addr} {o : Nat → Int} {z b : List Int} (h : LOp w x o z b) (g : Below w.heap.size w w') : LOp w' x o z b := by
  obtain ⟨wa, lw, cw, ba, lb, cb, h1, h2, h3, h4, h5, h6⟩ := h
  exact ⟨wa, lw, cw, ba, lb, cb, h1, h2, fun j v hj => (g.cell (World.block_lt_of_cell? w _ (h3 j v hj))).trans (h3 j v hj), h4.below g, h5.below g, h6⟩
theorem LRow.below {w w' : World} {oa : Option Addr} {on oc : Nat} {O : Nat → Nat → Int} {Z B : Nat → List Int} (h : LRow w oa on oc O Z B) (g : Below w.heap.size w w') : LRow w' oa on oc O Z B :=
  ⟨h.1, h.2.1, h.2.2.1, fun x hx i hi => (h.2.2.2 x hx i hi).below g⟩
def oL (b0 b1 b2 b3 b4 b5 b6 b7 b8 b9 b10 b11 b12 b13 b14 b15 b16 b17 b18 b19 b20 b21 : Int) (j : Nat) : Int := [b0, b1, b2, b3, b4, b5, b6, b7, b8, b9, b10, b11, b12, b13, b14, b15, b16, b17, b18, b19, b20, b21].getD j 0
theorem lop_of {w : World} {x : Addr} {cs : List Value} (h : OpIn w cs) (hc : ∀ j, j < 22 → w.cell? (x.add j) = cs[j]?) : ∃ o z b, LOp w x o z b := by
  obtain ⟨b0, b1, b2, b3, b4, b5, b6, b7, b8, b9, b10, b11, b12, l12, c12, z12, b13, l13, c13, z13, b14, b15, b16, b17, b18, b19, b20, b21, rfl, -, -, -, -, -, -, -, -, -, -, -, -, h1, h2, h3, h4, -⟩ := h
  refine ⟨oL b0 b1 b2 b3 b4 b5 b6 b7 b8 b9 b10 b11 l12 l13 b14 b15 b16 b17 b18 b19 b20 b21, z12, z13, b12, l12, c12, b13, l13, c13, rfl, rfl, fun j v hj => ?_, h1, h3, h2, h4⟩
  have hj' : j < 22 := (List.getElem?_eq_some_iff.1 hj).1
  rw [hc j hj', ← hj]
  rfl
theorem lrow_of {w : World} {oa : Option Addr} {on oc : Nat} (h : ORow 22 (OpIn w) w oa on oc) : ∃ O Z B, LRow w oa on oc O Z B := by
  obtain ⟨h1, h2, h3, h4⟩ := h
  cases oa with
  | none => exact ⟨fun _ _ => 0, fun _ => [], fun _ => [], h1, h2, h3, fun x hx => by cases hx⟩
  | some x =>
    have q : ∀ i, ∃ y : (Nat → Int) × List Int × List Int, i < on → LOp w (x.add (i * 22)) y.1 y.2.1 y.2.2 := by
      intro i
      by_cases hi : i < on
      · obtain ⟨cs, -, g1, g2⟩ := h4 x rfl i hi
        obtain ⟨o, z, b, g⟩ := lop_of (x := x.add (i * 22)) g1 (fun j hj => by rw [Addr.add_add]; exact g2 j hj)
        exact ⟨(o, z, b), fun _ => g⟩
      · exact ⟨(fun _ => 0, [], []), fun h => absurd h hi⟩
    obtain ⟨f, hf⟩ := Classical.skolem.1 q
    exact ⟨fun i => (f i).1, fun i => (f i).2.1, fun i => (f i).2.2, h1, h2, h3, fun y hy i hi => by cases hy; exact hf i hi⟩
end Go.Proofs.Ytgiohlcipndakaa

/- Sums of ops that reduce, in plain numbers: their terms, their bias, and what is known of such an op of a well-formed model. -/
namespace Go.Proofs.Ytgiohlcipndakaa
open Go.ChangeShapes Go.WideShapes Go.ChangeAt Go.RowKit
set_option linter.unusedVariables false
/-- An op that reduces: its kind, its window, the shape that it reads, the one that it makes, how long its lists are. -/
def Sit (k kh kw sh sw tp lf bt rt h w c H V C : Int) (lw lb : Nat) : Prop :=
  (1 ≤ k ∧ k ≤ 4) ∧ vS h w c = true ∧ vS H V C = true ∧ (2 ≤ k → ouR h w c kh kw sh sw tp lf bt rt = (H, V, 0)) ∧ (k = 1 → H = 1 ∧ V = 1) ∧ (2 ≤ k → (1 ≤ kh ∧ kh ≤ 32) ∧ (1 ≤ kw ∧ kw ≤ 32)) ∧
    (k ≤ 3 → (lw : Int) = C * stR k kh kw h w c ∧ (lb : Int) = C) ∧ (3 ≤ k → C = c) ∧ (1 ≤ stR k kh kw h w c ∧ stR k kh kw h w c ≤ 512)
theorem op_sit {k a b m kh kw sh sw tp lf bt rt : Int} {lw lb : Nat} {sm ss um us z p lo hi wk : Int} {L : List (Int × Int × Int)} (hx : tkE k a b m kh kw sh sw tp lf bt rt lw lb sm ss um us z p lo hi L wk = 0) (hk : 1 ≤ k ∧ k ≤ 4) (hv : ∀ s ∈ L, vS3 s = true)
    {h w c H V C : Int} (hA : ShA L a = (h, w, c)) (hB : mk3 k m kh kw sh sw tp lf bt rt (h, w, c) = (H, V, C)) : Sit k kh kw sh sw tp lf bt rt h w c H V C lw lb := by
  obtain ⟨t1, -, -, ⟨a0, a1⟩, -, t6⟩ := tk_0 hx hv
  have hg : vS h w c = true := by
    obtain ⟨i, rfl⟩ := Int.eq_ofNat_of_zero_le a0
    have := hv _ (ShA_mem (show i < L.length by omega))
    rw [hA] at this
    exact this
  have h1 : opE k a b m kh kw sh sw tp lf bt rt lw lb sm ss um us z p lo hi L = 0 := by
    unfold tkE at hx
    by_cases q : opE k a b m kh kw sh sw tp lf bt rt lw lb sm ss um us z p lo hi L ≠ 0
    · rw [if_pos q] at hx; exact hx
    · exact Decidable.not_not.1 q
  rw [hA] at t1 t6
  rw [hB] at t1
  have fit := fit_of (A := (h, w, c)) t6 (by rw [hB]; exact t1)
  rw [hB] at fit
  obtain ⟨f1, f2, -⟩ := fit
  have hw : 2 ≤ k ∧ k ≤ 5 → (1 ≤ kh ∧ kh ≤ 32) ∧ (1 ≤ kw ∧ kw ≤ 32) := mkE_win t6
  have hst := stR_bd (k := k) (kh := kh) (kw := kw) (by omega) hg hw
  unfold opE at h1
  rw [hA] at h1
  rw [hB] at h1
  by_cases q1 : fmE k a b L.length (ozB k b m kh kw sh sw tp lf bt rt lw lb sm ss um us z p) ≠ 0
  · rw [if_pos q1] at h1; exact absurd h1 q1
  rw [if_neg q1] at h1
  simp only at h1
  rw [t6, if_neg (by decide), if_neg (by omega)] at h1
  by_cases q2 : rdB k = true ∧ 512 < st3 k kh kw (h, w, c)
  · rw [if_pos q2] at h1; cases h1
  rw [if_neg q2] at h1
  have h512 : stR k kh kw h w c ≤ 512 := by
    by_cases q : stR k kh kw h w c ≤ 512
    · exact q
    · exact absurd ⟨decide_eq_true (by omega), by show 512 < stR k kh kw h w c; omega⟩ q2
  unfold nuE at h1
  have hle : leB k C (st3 k kh kw (h, w, c)) lw lb = true := by
    cases q : leB k C (st3 k kh kw (h, w, c)) lw lb with
    | true => rfl
    | false => rw [q, if_pos rfl] at h1; cases h1
  have hle' := of_decide_eq_true hle
  refine ⟨hk, hg, f1, fun q => (f2 (by omega)).1, fun q => ?_, fun q => hw (by omega), hle', fun q => (f2 (by omega)).2 (by omega), hst.1, h512⟩
  subst q
  have : mk3 1 m kh kw sh sw tp lf bt rt (h, w, c) = (1, 1, m) := by unfold mk3 mkS; rw [if_pos rfl]
  rw [this] at hB
  simp only [Prod.mk.injEq] at hB
  exact ⟨hB.1.symm, hB.2.1.symm⟩
/-- An op that reduces, of a well-formed model. -/
theorem sit_of {O : Nat → Nat → Int} {h w c lo hi ot t wk : Int} {on : Nat} {L : List (Int × Int × Int)} (q : gtR O h w c lo hi ot on = (0, t, L, wk)) {i : Nat} (hi0 : i < on) (hk : 1 ≤ O i 0 ∧ O i 0 ≤ 4) :
    ∃ j : Nat, O i 1 = (j : Int) ∧ j ≤ i ∧ ∀ x y z H V C, ShA L (j : Int) = (x, y, z) → ShA L ((i + 1 : Nat) : Int) = (H, V, C) → Sit (O i 0) (O i 4) (O i 5) (O i 6) (O i 7) (O i 8) (O i 9) (O i 10) (O i 11) x y z H V C (O i 12).toNat (O i 13).toNat := by
  obtain ⟨hx, rfl, q2⟩ := gtR_st q
  clear q
  have q := q2
  have hv : vS3 (h, w, c) = true := (ouE_0 hx).1
  obtain ⟨wi, g1, -⟩ := stG_pre hv on L wk q (i + 1) (by omega)
  obtain ⟨L0, wk0, h0, hx0, hL, -⟩ := stG_step g1
  obtain ⟨w2, g2, -⟩ := stG_pre hv on L wk q i (by omega)
  rw [g2] at h0
  simp only [Prod.mk.injEq, true_and] at h0
  obtain ⟨rfl, rfl⟩ := h0
  obtain ⟨i1, i2, -⟩ := stG_inv hv i _ _ g2
  obtain ⟨t1, -, -, ⟨a0, a1⟩, -, t6⟩ := tk_0 hx0 i2
  obtain ⟨j, hj⟩ := Int.eq_ofNat_of_zero_le a0
  rw [hj] at a1
  have e1 : ShA (L.take (i + 1)) (j : Int) = ShA L (j : Int) := ShA_take (by omega)
  have e2 : ShA L ((i + 1 : Nat) : Int) = mk3 (O i 0) (O i 3) (O i 4) (O i 5) (O i 6) (O i 7) (O i 8) (O i 9) (O i 10) (O i 11) (ShA L (j : Int)) := by
    rw [← ShA_take (n := i + 1 + 1) (by omega), hL]
    unfold ShA at e1 ⊢
    rw [Int.toNat_natCast]
    simp only [List.getD]
    rw [List.getElem?_append_right (by omega), i1, Nat.sub_self]
    unfold oM ShA
    rw [hj, Int.toNat_natCast]
    rw [Int.toNat_natCast] at e1
    simp only [List.getElem?_cons_zero, Option.getD_some]
    rw [e1]
    rfl
  refine ⟨j, hj, by omega, fun x y z H V C hA hB => ?_⟩
  exact op_sit hx0 hk i2 (by rw [hj, e1]; exact hA) (by rw [← hB, e2, hA])
/-! ### The terms -/
/-- The place of channel c where a tap covers p. -/
def cov (C p c : Int) : Int := if p = -1 then -1 else p * C + c
/-- What tap q covers, the corner being at t, u. -/
def tpc (h w kw t u q : Int) : Int := plc h w (t + q / kw) (u + q % kw)
def plA (k C ch h w kw t u i : Int) : Int := if k = 1 then i else if k = 2 then cov C (tpc h w kw t u (i / C)) (i % C) else cov C (tpc h w kw t u i) (ch - 1)
def wgA (k ch st : Int) (z : List Int) (i : Int) : Int := if k = 4 then 1 else z.getD ((ch - 1) * st + i).toNat 0
def biA (k ch : Int) (b : List Int) : Int := if k = 4 then 0 else b.getD (ch - 1).toNat 0
def tmL (k C ch h w kw t u st : Int) (z : List Int) (n : Nat) : List (Int × Int) := (List.range n).map fun (i : Nat) => (wgA k ch st z i, plA k C ch h w kw t u i)
theorem tmL_len (k C ch h w kw t u st : Int) (z : List Int) (n : Nat) : (tmL k C ch h w kw t u st z n).length = n := by simp [tmL]
theorem tmL_succ (k C ch h w kw t u st : Int) (z : List Int) (n : Nat) : tmL k C ch h w kw t u st z (n + 1) = tmL k C ch h w kw t u st z n ++ [(wgA k ch st z n, plA k C ch h w kw t u n)] := by simp [tmL, List.range_succ]
/-- The terms of a channel at a position. -/
def siL (k kh kw sh sw tp lf bt rt h w c ch at' : Int) (z : List Int) : List (Int × Int) :=
  tmL k c ch h w kw (coR h w c kh kw sh sw tp lf bt rt at').1 (coR h w c kh kw sh sw tp lf bt rt at').2.1 (stR k kh kw h w c) z (stR k kh kw h w c).toNat
/-- The error of an op that is asked. -/
def fiE (O : Nat → Nat → Int) (h w c lo hi ot : Int) (on : Nat) (op : Int) : Int :=
  if (gtR O h w c lo hi ot on).1 ≠ 0 then (gtR O h w c lo hi ot on).1 else if ¬ (1 ≤ op ∧ op ≤ (on : Int)) then 3 else if rdB (O (op - 1).toNat 0) = false then 81 else 0
theorem fiE_err {O : Nat → Nat → Int} {h w c lo hi ot op e : Int} {on : Nat} (g : (gtR O h w c lo hi ot on).1 = e) (he : e ≠ 0) : fiE O h w c lo hi ot on op = e := by unfold fiE; rw [g, if_pos he]
theorem fiE_3 {O : Nat → Nat → Int} {h w c lo hi ot op : Int} {on : Nat} (g : (gtR O h w c lo hi ot on).1 = 0) (ho : ¬ (1 ≤ op ∧ op ≤ (on : Int))) : fiE O h w c lo hi ot on op = 3 := by unfold fiE; rw [g, if_neg (by decide), if_pos ho]
theorem fiE_81 {O : Nat → Nat → Int} {h w c lo hi ot : Int} {on i : Nat} (g : (gtR O h w c lo hi ot on).1 = 0) (ho : i < on) (hk : rdB (O i 0) = false) : fiE O h w c lo hi ot on ((i : Int) + 1) = 81 := by
  unfold fiE; rw [g, if_neg (by decide), if_neg (by omega), show ((i : Int) + 1 - 1).toNat = i by omega, hk, if_pos rfl]
theorem fiE_0 {O : Nat → Nat → Int} {h w c lo hi ot : Int} {on i : Nat} (g : (gtR O h w c lo hi ot on).1 = 0) (ho : i < on) (hk : rdB (O i 0) = true) : fiE O h w c lo hi ot on ((i : Int) + 1) = 0 := by
  unfold fiE; rw [g, if_neg (by decide), if_neg (by omega), show ((i : Int) + 1 - 1).toNat = i by omega, hk, if_neg (by decide)]
end Go.Proofs.Ytgiohlcipndakaa

/- What the small functions of package terms return: how many terms, channels and positions an op has; its bias; a weight; the channels that are read; a place. -/
namespace Go.Proofs.Ytgiohlcipndakaa
open Go.ChangeShapes Go.WideShapes Go.ChangeAt Go.RowKit
set_option linter.unusedVariables false
theorem Sit.win {k kh kw sh sw tp lf bt rt h w c H V C : Int} {lw lb : Nat} (s : Sit k kh kw sh sw tp lf bt rt h w c H V C lw lb) (q : k ≠ 1) : (1 ≤ kh ∧ kh ≤ 32) ∧ (1 ≤ kw ∧ kw ≤ 32) := s.2.2.2.2.2.1 (by have := s.1; omega)
set_option maxHeartbeats 1000000 in
theorem tlen_1 (a b m kh kw sh sw tp lf bt rt : Int) (wa : Option Addr) (lw wc : Nat) (ba : Option Addr) (lb bc : Nat) (sm ss um us z p lo hi h w c H V C : Int) (r : Nat) (W : World) (hr : W.heap[r]? = some (.cells #[.int .i64 1, .int .i64 a, .int .i64 b, .int .i64 m, .int .i64 kh, .int .i64 kw, .int .i64 sh, .int .i64 sw, .int .i64 tp, .int .i64 lf, .int .i64 bt, .int .i64 rt, .slice wa lw wc, .slice ba lb bc, .int .i64 sm, .int .i64 ss, .int .i64 um, .int .i64 us, .int .i64 z, .int .i64 p, .int .i64 lo, .int .i64 hi, .int .i64 h, .int .i64 w, .int .i64 c, .int .i64 H, .int .i64 V, .int .i64 C] 62 (0, 0))) (g : vS h w c = true) (hw : (1 : Int) ≠ 1 → (1 ≤ kh ∧ kh ≤ 32) ∧ (1 ≤ kw ∧ kw ≤ 32)) :
    Calls Try.prog 22 #[.pointer (some ⟨r, 0, none⟩)] W fun e w' => e = .returned (.int .i64 (stR 1 kh kw h w c)) ∧ ∃ n, w' = W.drewN n := by
  have p3 : (1 ≤ h * w ∧ h * w ≤ 1048576) ∧ (1 ≤ h * w * c ∧ h * w * c ≤ 16384) := vS_bd g
  have c1 := (vS_yes g).2.2.1
  have hp : (1 : Int) ≠ 1 → (1 ≤ kh * kw ∧ kh * kw ≤ 1024) ∧ (1 ≤ kh * kw * c ∧ kh * kw * c ≤ 1048576) := fun q => by
    obtain ⟨hw1, hw2⟩ := hw q
    obtain ⟨p1, p2⟩ := mul_bd hw1.1 hw1.2 hw2.1 hw2.2
    obtain ⟨q1, q2⟩ := mul_bd p1 p2 c1.1 c1.2
    exact ⟨⟨p1, by omega⟩, q1, by omega⟩
  rw [show stR 1 kh kw h w c = (if (1 : Int) = 1 then h * w * c else if (1 : Int) = 2 then kh * kw * c else kh * kw) from rfl]
  simp at hp ⊢
  obtain ⟨p', ep⟩ : ∃ p', h * w = p' := ⟨_, rfl⟩
  obtain ⟨q', eq⟩ : ∃ q', kh * kw = q' := ⟨_, rfl⟩
  rw [ep] at p3
  try rw [eq] at hp
  try rw [ep]
  try rw [eq]
  obtain ⟨y1, y2, y3⟩ := cells_at hr
  clear g hw c1 hr
  go_enter Try.func22, Try.ntmps22
  go_wp2
  go_quiet (fail)
  go_wp2
  go_ret
  exact ⟨rfl, _, rfl⟩
set_option maxHeartbeats 1000000 in
theorem tlen_2 (a b m kh kw sh sw tp lf bt rt : Int) (wa : Option Addr) (lw wc : Nat) (ba : Option Addr) (lb bc : Nat) (sm ss um us z p lo hi h w c H V C : Int) (r : Nat) (W : World) (hr : W.heap[r]? = some (.cells #[.int .i64 2, .int .i64 a, .int .i64 b, .int .i64 m, .int .i64 kh, .int .i64 kw, .int .i64 sh, .int .i64 sw, .int .i64 tp, .int .i64 lf, .int .i64 bt, .int .i64 rt, .slice wa lw wc, .slice ba lb bc, .int .i64 sm, .int .i64 ss, .int .i64 um, .int .i64 us, .int .i64 z, .int .i64 p, .int .i64 lo, .int .i64 hi, .int .i64 h, .int .i64 w, .int .i64 c, .int .i64 H, .int .i64 V, .int .i64 C] 62 (0, 0))) (g : vS h w c = true) (hw : (2 : Int) ≠ 1 → (1 ≤ kh ∧ kh ≤ 32) ∧ (1 ≤ kw ∧ kw ≤ 32)) :
    Calls Try.prog 22 #[.pointer (some ⟨r, 0, none⟩)] W fun e w' => e = .returned (.int .i64 (stR 2 kh kw h w c)) ∧ ∃ n, w' = W.drewN n := by
  have p3 : (1 ≤ h * w ∧ h * w ≤ 1048576) ∧ (1 ≤ h * w * c ∧ h * w * c ≤ 16384) := vS_bd g
  have c1 := (vS_yes g).2.2.1
  have hp : (2 : Int) ≠ 1 → (1 ≤ kh * kw ∧ kh * kw ≤ 1024) ∧ (1 ≤ kh * kw * c ∧ kh * kw * c ≤ 1048576) := fun q => by
    obtain ⟨hw1, hw2⟩ := hw q
    obtain ⟨p1, p2⟩ := mul_bd hw1.1 hw1.2 hw2.1 hw2.2
    obtain ⟨q1, q2⟩ := mul_bd p1 p2 c1.1 c1.2
    exact ⟨⟨p1, by omega⟩, q1, by omega⟩
  rw [show stR 2 kh kw h w c = (if (2 : Int) = 1 then h * w * c else if (2 : Int) = 2 then kh * kw * c else kh * kw) from rfl]
  simp at hp ⊢
  obtain ⟨p', ep⟩ : ∃ p', h * w = p' := ⟨_, rfl⟩
  obtain ⟨q', eq⟩ : ∃ q', kh * kw = q' := ⟨_, rfl⟩
  rw [ep] at p3
  try rw [eq] at hp
  try rw [ep]
  try rw [eq]
  obtain ⟨y1, y2, y3⟩ := cells_at hr
  clear g hw c1 hr
  go_enter Try.func22, Try.ntmps22
  go_wp2
  go_quiet (fail)
  go_wp2
  go_ret
  exact ⟨rfl, _, rfl⟩
set_option maxHeartbeats 1000000 in
theorem tlen_3 (a b m kh kw sh sw tp lf bt rt : Int) (wa : Option Addr) (lw wc : Nat) (ba : Option Addr) (lb bc : Nat) (sm ss um us z p lo hi h w c H V C : Int) (r : Nat) (W : World) (hr : W.heap[r]? = some (.cells #[.int .i64 3, .int .i64 a, .int .i64 b, .int .i64 m, .int .i64 kh, .int .i64 kw, .int .i64 sh, .int .i64 sw, .int .i64 tp, .int .i64 lf, .int .i64 bt, .int .i64 rt, .slice wa lw wc, .slice ba lb bc, .int .i64 sm, .int .i64 ss, .int .i64 um, .int .i64 us, .int .i64 z, .int .i64 p, .int .i64 lo, .int .i64 hi, .int .i64 h, .int .i64 w, .int .i64 c, .int .i64 H, .int .i64 V, .int .i64 C] 62 (0, 0))) (g : vS h w c = true) (hw : (3 : Int) ≠ 1 → (1 ≤ kh ∧ kh ≤ 32) ∧ (1 ≤ kw ∧ kw ≤ 32)) :
    Calls Try.prog 22 #[.pointer (some ⟨r, 0, none⟩)] W fun e w' => e = .returned (.int .i64 (stR 3 kh kw h w c)) ∧ ∃ n, w' = W.drewN n := by
  have p3 : (1 ≤ h * w ∧ h * w ≤ 1048576) ∧ (1 ≤ h * w * c ∧ h * w * c ≤ 16384) := vS_bd g
  have c1 := (vS_yes g).2.2.1
  have hp : (3 : Int) ≠ 1 → (1 ≤ kh * kw ∧ kh * kw ≤ 1024) ∧ (1 ≤ kh * kw * c ∧ kh * kw * c ≤ 1048576) := fun q => by
    obtain ⟨hw1, hw2⟩ := hw q
    obtain ⟨p1, p2⟩ := mul_bd hw1.1 hw1.2 hw2.1 hw2.2
    obtain ⟨q1, q2⟩ := mul_bd p1 p2 c1.1 c1.2
    exact ⟨⟨p1, by omega⟩, q1, by omega⟩
  rw [show stR 3 kh kw h w c = (if (3 : Int) = 1 then h * w * c else if (3 : Int) = 2 then kh * kw * c else kh * kw) from rfl]
  simp at hp ⊢
  obtain ⟨p', ep⟩ : ∃ p', h * w = p' := ⟨_, rfl⟩
  obtain ⟨q', eq⟩ : ∃ q', kh * kw = q' := ⟨_, rfl⟩
  rw [ep] at p3
  try rw [eq] at hp
  try rw [ep]
  try rw [eq]
  obtain ⟨y1, y2, y3⟩ := cells_at hr
  clear g hw c1 hr
  go_enter Try.func22, Try.ntmps22
  go_wp2
  go_quiet (fail)
  go_wp2
  go_ret
  exact ⟨rfl, _, rfl⟩
set_option maxHeartbeats 1000000 in
theorem tlen_4 (a b m kh kw sh sw tp lf bt rt : Int) (wa : Option Addr) (lw wc : Nat) (ba : Option Addr) (lb bc : Nat) (sm ss um us z p lo hi h w c H V C : Int) (r : Nat) (W : World) (hr : W.heap[r]? = some (.cells #[.int .i64 4, .int .i64 a, .int .i64 b, .int .i64 m, .int .i64 kh, .int .i64 kw, .int .i64 sh, .int .i64 sw, .int .i64 tp, .int .i64 lf, .int .i64 bt, .int .i64 rt, .slice wa lw wc, .slice ba lb bc, .int .i64 sm, .int .i64 ss, .int .i64 um, .int .i64 us, .int .i64 z, .int .i64 p, .int .i64 lo, .int .i64 hi, .int .i64 h, .int .i64 w, .int .i64 c, .int .i64 H, .int .i64 V, .int .i64 C] 62 (0, 0))) (g : vS h w c = true) (hw : (4 : Int) ≠ 1 → (1 ≤ kh ∧ kh ≤ 32) ∧ (1 ≤ kw ∧ kw ≤ 32)) :
    Calls Try.prog 22 #[.pointer (some ⟨r, 0, none⟩)] W fun e w' => e = .returned (.int .i64 (stR 4 kh kw h w c)) ∧ ∃ n, w' = W.drewN n := by
  have p3 : (1 ≤ h * w ∧ h * w ≤ 1048576) ∧ (1 ≤ h * w * c ∧ h * w * c ≤ 16384) := vS_bd g
  have c1 := (vS_yes g).2.2.1
  have hp : (4 : Int) ≠ 1 → (1 ≤ kh * kw ∧ kh * kw ≤ 1024) ∧ (1 ≤ kh * kw * c ∧ kh * kw * c ≤ 1048576) := fun q => by
    obtain ⟨hw1, hw2⟩ := hw q
    obtain ⟨p1, p2⟩ := mul_bd hw1.1 hw1.2 hw2.1 hw2.2
    obtain ⟨q1, q2⟩ := mul_bd p1 p2 c1.1 c1.2
    exact ⟨⟨p1, by omega⟩, q1, by omega⟩
  rw [show stR 4 kh kw h w c = (if (4 : Int) = 1 then h * w * c else if (4 : Int) = 2 then kh * kw * c else kh * kw) from rfl]
  simp at hp ⊢
  obtain ⟨p', ep⟩ : ∃ p', h * w = p' := ⟨_, rfl⟩
  obtain ⟨q', eq⟩ : ∃ q', kh * kw = q' := ⟨_, rfl⟩
  rw [ep] at p3
  try rw [eq] at hp
  try rw [ep]
  try rw [eq]
  obtain ⟨y1, y2, y3⟩ := cells_at hr
  clear g hw c1 hr
  go_enter Try.func22, Try.ntmps22
  go_wp2
  go_quiet (fail)
  go_wp2
  go_ret
  exact ⟨rfl, _, rfl⟩
theorem tlen_any (k a b m kh kw sh sw tp lf bt rt : Int) (wa : Option Addr) (lw wc : Nat) (ba : Option Addr) (lb bc : Nat) (sm ss um us z p lo hi h w c H V C : Int) (r : Nat) (W : World) (hr : W.heap[r]? = some (.cells #[.int .i64 k, .int .i64 a, .int .i64 b, .int .i64 m, .int .i64 kh, .int .i64 kw, .int .i64 sh, .int .i64 sw, .int .i64 tp, .int .i64 lf, .int .i64 bt, .int .i64 rt, .slice wa lw wc, .slice ba lb bc, .int .i64 sm, .int .i64 ss, .int .i64 um, .int .i64 us, .int .i64 z, .int .i64 p, .int .i64 lo, .int .i64 hi, .int .i64 h, .int .i64 w, .int .i64 c, .int .i64 H, .int .i64 V, .int .i64 C] 62 (0, 0))) (s : Sit k kh kw sh sw tp lf bt rt h w c H V C lw lb) :
    Calls Try.prog 22 #[.pointer (some ⟨r, 0, none⟩)] W fun e w' => e = .returned (.int .i64 (stR k kh kw h w c)) ∧ ∃ n, w' = W.drewN n := by
  have hk := s.1
  have g := s.2.1
  have hw := s.win
  rcases (show k = 1 ∨ k = 2 ∨ k = 3 ∨ k = 4 by omega) with rfl | rfl | rfl | rfl
  · exact tlen_1 a b m kh kw sh sw tp lf bt rt wa lw wc ba lb bc sm ss um us z p lo hi h w c H V C r W hr g hw
  · exact tlen_2 a b m kh kw sh sw tp lf bt rt wa lw wc ba lb bc sm ss um us z p lo hi h w c H V C r W hr g hw
  · exact tlen_3 a b m kh kw sh sw tp lf bt rt wa lw wc ba lb bc sm ss um us z p lo hi h w c H V C r W hr g hw
  · exact tlen_4 a b m kh kw sh sw tp lf bt rt wa lw wc ba lb bc sm ss um us z p lo hi h w c H V C r W hr g hw
theorem tchan_any (k a b m kh kw sh sw tp lf bt rt : Int) (wa : Option Addr) (lw wc : Nat) (ba : Option Addr) (lb bc : Nat) (sm ss um us z p lo hi h w c H V C : Int) (r : Nat) (W : World) (hr : W.heap[r]? = some (.cells #[.int .i64 k, .int .i64 a, .int .i64 b, .int .i64 m, .int .i64 kh, .int .i64 kw, .int .i64 sh, .int .i64 sw, .int .i64 tp, .int .i64 lf, .int .i64 bt, .int .i64 rt, .slice wa lw wc, .slice ba lb bc, .int .i64 sm, .int .i64 ss, .int .i64 um, .int .i64 us, .int .i64 z, .int .i64 p, .int .i64 lo, .int .i64 hi, .int .i64 h, .int .i64 w, .int .i64 c, .int .i64 H, .int .i64 V, .int .i64 C] 62 (0, 0))) :
    Calls Try.prog 56 #[.pointer (some ⟨r, 0, none⟩)] W fun e w' => e = .returned (.int .i64 C) ∧ w' = W := by
  obtain ⟨y1, y2, y3⟩ := cells_at hr
  clear hr
  go_enter Try.func56, Try.ntmps56
  go_wp2
  go_ret
  exact ⟨rfl, rfl⟩
theorem tpos_any (k a b m kh kw sh sw tp lf bt rt : Int) (wa : Option Addr) (lw wc : Nat) (ba : Option Addr) (lb bc : Nat) (sm ss um us z p lo hi h w c H V C : Int) (r : Nat) (W : World) (hr : W.heap[r]? = some (.cells #[.int .i64 k, .int .i64 a, .int .i64 b, .int .i64 m, .int .i64 kh, .int .i64 kw, .int .i64 sh, .int .i64 sw, .int .i64 tp, .int .i64 lf, .int .i64 bt, .int .i64 rt, .slice wa lw wc, .slice ba lb bc, .int .i64 sm, .int .i64 ss, .int .i64 um, .int .i64 us, .int .i64 z, .int .i64 p, .int .i64 lo, .int .i64 hi, .int .i64 h, .int .i64 w, .int .i64 c, .int .i64 H, .int .i64 V, .int .i64 C] 62 (0, 0))) (g : vS H V C = true) :
    Calls Try.prog 57 #[.pointer (some ⟨r, 0, none⟩)] W fun e w' => e = .returned (.int .i64 (H * V)) ∧ ∃ n, w' = W.drewN n := by
  obtain ⟨y1, y2, y3⟩ := cells_at hr
  have p3 := vS_bd g
  clear hr g
  go_enter Try.func57, Try.ntmps57
  go_wp2
  go_quiet (fail)
  go_wp2
  go_ret
  exact ⟨rfl, _, rfl⟩
set_option maxHeartbeats 1000000 in
theorem tbias_any (k a b m kh kw sh sw tp lf bt rt : Int) (wa : Option Addr) (lw wc : Nat) (ba : Option Addr) (lb bc : Nat) (sm ss um us z p lo hi h w c H V C : Int) (r : Nat) (W : World) (hr : W.heap[r]? = some (.cells #[.int .i64 k, .int .i64 a, .int .i64 b, .int .i64 m, .int .i64 kh, .int .i64 kw, .int .i64 sh, .int .i64 sw, .int .i64 tp, .int .i64 lf, .int .i64 bt, .int .i64 rt, .slice wa lw wc, .slice ba lb bc, .int .i64 sm, .int .i64 ss, .int .i64 um, .int .i64 us, .int .i64 z, .int .i64 p, .int .i64 lo, .int .i64 hi, .int .i64 h, .int .i64 w, .int .i64 c, .int .i64 H, .int .i64 V, .int .i64 C] 62 (0, 0))) (bs : List Int) (hB : IRow .i32 W ba lb bc bs) (s : Sit k kh kw sh sw tp lf bt rt h w c H V C lw lb) (ch : Int) (hc : 1 ≤ ch ∧ ch ≤ C) :
    Calls Try.prog 59 #[.pointer (some ⟨r, 0, none⟩), .int .i64 ch] W fun e w' => e = .returned (.int .i64 (biA k ch bs)) ∧ w' = W := by
  obtain ⟨y1, y2, y3⟩ := cells_at hr
  obtain ⟨hk, -, hv, -, -, -, hl, -⟩ := s
  have hC := (vS_yes hv).2.2.1
  clear hr
  by_cases k4 : k = 4
  · subst k4
    rw [show biA 4 ch bs = 0 from if_pos rfl]
    go_enter Try.func59, Try.ntmps59
    go_wp2
    go_ret
    exact ⟨rfl, rfl⟩
  · rw [show biA k ch bs = bs.getD (ch - 1).toNat 0 from if_neg k4]
    have hl2 := (hl (by omega)).2
    obtain ⟨n, rfl⟩ : ∃ n : Nat, ch = (n : Int) + 1 := ⟨(ch - 1).toNat, by omega⟩
    have hm := hB.2.2.1
    have hcc := hB.2.1
    unfold maxLen at hm
    obtain ⟨x, u, rfl, hu, hwf, hz, -⟩ := hB.at (show n < lb by omega)
    obtain ⟨u1, u2⟩ := wf_i32 hwf
    have e : bs.getD ((n : Int) + 1 - 1).toNat 0 = u := by rw [show ((n : Int) + 1 - 1).toNat = n by omega, List.getD_eq_getElem?_getD, hz]; rfl
    rw [e]
    have k4' : (k == 4) = false := by simp [k4]
    clear e hz hwf hB hl
    go_enter Try.func59, Try.ntmps59
    go_wp2
    go_ret
    exact ⟨rfl, rfl⟩
set_option maxHeartbeats 1000000 in
theorem twei_any (k a b m kh kw sh sw tp lf bt rt : Int) (wa : Option Addr) (lw wc : Nat) (ba : Option Addr) (lb bc : Nat) (sm ss um us z p lo hi h w c H V C : Int) (r : Nat) (W : World) (hr : W.heap[r]? = some (.cells #[.int .i64 k, .int .i64 a, .int .i64 b, .int .i64 m, .int .i64 kh, .int .i64 kw, .int .i64 sh, .int .i64 sw, .int .i64 tp, .int .i64 lf, .int .i64 bt, .int .i64 rt, .slice wa lw wc, .slice ba lb bc, .int .i64 sm, .int .i64 ss, .int .i64 um, .int .i64 us, .int .i64 z, .int .i64 p, .int .i64 lo, .int .i64 hi, .int .i64 h, .int .i64 w, .int .i64 c, .int .i64 H, .int .i64 V, .int .i64 C] 62 (0, 0))) (zs : List Int) (hZ : IRow .i16 W wa lw wc zs) (s : Sit k kh kw sh sw tp lf bt rt h w c H V C lw lb) (ch : Int) (hc : 1 ≤ ch ∧ ch ≤ C) (i : Nat) (hi0 : (i : Int) < stR k kh kw h w c) :
    Calls Try.prog 67 #[.pointer (some ⟨r, 0, none⟩), .int .i64 ch, .int .i64 i] W fun e w' => e = .returned (.int .i64 (wgA k ch (stR k kh kw h w c) zs i)) ∧ ∃ n, w' = W.drewN n := by
  have hL : Hid (∀ n, Calls Try.prog 22 #[.pointer (some ⟨r, 0, none⟩)] (W.drewN n) fun e w' => e = .returned (.int .i64 (stR k kh kw h w c)) ∧ ∃ m, w' = (W.drewN n).drewN m) := fun n => tlen_any k a b m kh kw sh sw tp lf bt rt wa lw wc ba lb bc sm ss um us z p lo hi h w c H V C r (W.drewN n) hr s
  obtain ⟨y1, y2, y3⟩ := cells_at hr
  obtain ⟨hk, -, hv, -, -, -, hl, -, hst0, hst1⟩ := s
  have hC := (vS_yes hv).2.2.1
  obtain ⟨st, hst⟩ : ∃ st, stR k kh kw h w c = st := ⟨_, rfl⟩
  rw [hst] at hL hl hst0 hst1 hi0 ⊢
  clear hr hst hv
  by_cases k4 : k = 4
  · subst k4
    rw [show wgA 4 ch st zs i = 1 from if_pos rfl]
    go_enter Try.func67, Try.ntmps67
    go_wp2
    go_ret
    exact ⟨rfl, 0, rfl⟩
  · rw [show wgA k ch st zs i = zs.getD ((ch - 1) * st + i).toNat 0 from if_neg k4]
    have hl2 := (hl (by omega)).1
    obtain ⟨d, rfl⟩ : ∃ d : Nat, ch = (d : Int) + 1 := ⟨(ch - 1).toNat, by omega⟩
    have hm := hZ.2.2.1
    have hcc := hZ.2.1
    unfold maxLen at hm
    have p1 : 0 ≤ (d : Int) * st := Int.mul_nonneg (by omega) (by omega)
    have p2 : (d : Int) * st + st ≤ C * st := by
      have := Int.mul_le_mul_of_nonneg_right (show (d : Int) + 1 ≤ C by omega) (show 0 ≤ st by omega)
      rwa [Int.add_mul, Int.one_mul] at this
    obtain ⟨p', ep⟩ : ∃ p', (d : Int) * st = p' := ⟨_, rfl⟩
    rw [show (d : Int) + 1 - 1 = d by omega, ep]
    rw [ep] at p1 p2
    rw [← hl2] at p2
    obtain ⟨N, eN⟩ : ∃ N : Nat, p' + (i : Int) = (N : Int) := ⟨(p' + i).toNat, by omega⟩
    rw [eN]
    have hN : N < lw := by omega
    obtain ⟨x, u, rfl, hu, hwf, hz, -⟩ := hZ.at hN
    obtain ⟨u1, u2⟩ := wf_i16 hwf
    have e : zs.getD ((N : Int)).toNat 0 = u := by rw [Int.toNat_natCast, List.getD_eq_getElem?_getD, hz]; rfl
    rw [e]
    have k4' : (k == 4) = false := by simp [k4]
    have hd1 : (d : Int) + 1 ≤ 1024 := by omega
    have hi2 : (i : Int) ≤ 512 := by omega
    clear e hz hwf hZ hl hl2 hC hc
    go_enter Try.func67, Try.ntmps67
    go_wp2
    go_quiet ((go_at_call 22; exact Calls.quiet_of (hL.out _)))
    go_wp2
    go_ret
    exact ⟨rfl, _, rfl⟩
/-- The channels that are read: the first, and the one behind the last. -/
def chF (k ch : Int) : Int := if k = 2 then 0 else ch - 1
def chB (k c ch : Int) : Int := if k = 2 then c else ch
theorem tread_any (k a b m kh kw sh sw tp lf bt rt : Int) (wa : Option Addr) (lw wc : Nat) (ba : Option Addr) (lb bc : Nat) (sm ss um us z p lo hi h w c H V C : Int) (r : Nat) (W : World) (hr : W.heap[r]? = some (.cells #[.int .i64 k, .int .i64 a, .int .i64 b, .int .i64 m, .int .i64 kh, .int .i64 kw, .int .i64 sh, .int .i64 sw, .int .i64 tp, .int .i64 lf, .int .i64 bt, .int .i64 rt, .slice wa lw wc, .slice ba lb bc, .int .i64 sm, .int .i64 ss, .int .i64 um, .int .i64 us, .int .i64 z, .int .i64 p, .int .i64 lo, .int .i64 hi, .int .i64 h, .int .i64 w, .int .i64 c, .int .i64 H, .int .i64 V, .int .i64 C] 62 (0, 0))) (ch : Int) (hc : 1 ≤ ch ∧ ch ≤ 1024) :
    Calls Try.prog 75 #[.pointer (some ⟨r, 0, none⟩), .int .i64 ch] W fun e w' => e = .returned (.tuple #[.int .i64 (chF k ch), .int .i64 (chB k c ch)]) ∧ ∃ n, w' = W.drewN n := by
  obtain ⟨y1, y2, y3⟩ := cells_at hr
  clear hr
  by_cases k2 : k = 2
  · subst k2
    rw [show chF 2 ch = 0 from if_pos rfl, show chB 2 c ch = c from if_pos rfl]
    go_enter Try.func75, Try.ntmps75
    go_wp2
    go_quiet (fail)
    go_wp2
    go_ret2
    exact ⟨rfl, _, rfl⟩
  · rw [show chF k ch = ch - 1 from if_neg k2, show chB k c ch = ch from if_neg k2]
    have k2' : (k == 2) = false := by simp [k2]
    go_enter Try.func75, Try.ntmps75
    go_wp2
    go_ret2
    exact ⟨rfl, 0, rfl⟩
theorem tplace_any (k a b m kh kw sh sw tp lf bt rt : Int) (wa : Option Addr) (lw wc : Nat) (ba : Option Addr) (lb bc : Nat) (sm ss um us z p lo hi h w c H V C : Int) (r : Nat) (W : World) (hr : W.heap[r]? = some (.cells #[.int .i64 k, .int .i64 a, .int .i64 b, .int .i64 m, .int .i64 kh, .int .i64 kw, .int .i64 sh, .int .i64 sw, .int .i64 tp, .int .i64 lf, .int .i64 bt, .int .i64 rt, .slice wa lw wc, .slice ba lb bc, .int .i64 sm, .int .i64 ss, .int .i64 um, .int .i64 us, .int .i64 z, .int .i64 p, .int .i64 lo, .int .i64 hi, .int .i64 h, .int .i64 w, .int .i64 c, .int .i64 H, .int .i64 V, .int .i64 C] 62 (0, 0))) (q d : Int) (hq : -1 ≤ q ∧ q ≤ 16384) (hd : 0 ≤ d ∧ d ≤ 1024) (hc : 1 ≤ c ∧ c ≤ 1024) :
    Calls Try.prog 77 #[.pointer (some ⟨r, 0, none⟩), .int .i64 q, .int .i64 d] W fun e w' => e = .returned (.int .i64 (cov c q d)) ∧ w' = W := by
  obtain ⟨y1, y2, y3⟩ := cells_at hr
  clear hr
  by_cases q1 : q = -1
  · subst q1
    rw [show cov c (-1) d = -1 from if_pos rfl]
    go_enter Try.func77, Try.ntmps77
    go_wp2
    go_ret
    exact ⟨rfl, rfl⟩
  · rw [show cov c q d = q * c + d from if_neg q1]
    have q1' : (q == -1) = false := by simp [q1]
    have p1 : 0 ≤ q * c := Int.mul_nonneg (by omega) (by omega)
    have p2 : q * c ≤ 16384 * 1024 := Int.mul_le_mul hq.2 hc.2 (by omega) (by omega)
    obtain ⟨p', ep⟩ : ∃ p', q * c = p' := ⟨_, rfl⟩
    rw [ep] at p1 p2 ⊢
    go_enter Try.func77, Try.ntmps77
    go_wp2
    go_ret
    exact ⟨rfl, rfl⟩
end Go.Proofs.Ytgiohlcipndakaa

/- What places of package terms returns: the places of a channel's terms at a position. -/
namespace Go.Proofs.Ytgiohlcipndakaa
open Go.ChangeShapes Go.WideShapes Go.ChangeAt Go.RowKit Go.Shelf
set_option linter.unusedVariables false
def plL (k C ch h w kw t u : Int) (n : Nat) : List Int := (List.range n).map fun (i : Nat) => plA k C ch h w kw t u i
theorem plL_len (k C ch h w kw t u : Int) (n : Nat) : (plL k C ch h w kw t u n).length = n := by simp [plL]
theorem plL_succ (k C ch h w kw t u : Int) (n : Nat) : plL k C ch h w kw t u (n + 1) = plL k C ch h w kw t u n ++ [plA k C ch h w kw t u n] := by simp [plL, List.range_succ]
theorem boxed_below {w w' : World} {B : Nat} {t : TypeId} {v : Value} (h : Boxed w B t v) (k : Below w.heap.size w w') : Boxed w' B t v := (k.block B h.lt).trans h
set_option maxRecDepth 100000 in
set_option maxHeartbeats 4000000 in
theorem places_1 (a b m kh kw sh sw tp lf bt rt : Int) (wa : Option Addr) (lw wc : Nat) (ba : Option Addr) (lb bc : Nat) (sm ss um us z p lo hi h w c H V C : Int) (r : Nat) (W : World) (hr : W.heap[r]? = some (.cells #[.int .i64 1, .int .i64 a, .int .i64 b, .int .i64 m, .int .i64 kh, .int .i64 kw, .int .i64 sh, .int .i64 sw, .int .i64 tp, .int .i64 lf, .int .i64 bt, .int .i64 rt, .slice wa lw wc, .slice ba lb bc, .int .i64 sm, .int .i64 ss, .int .i64 um, .int .i64 us, .int .i64 z, .int .i64 p, .int .i64 lo, .int .i64 hi, .int .i64 h, .int .i64 w, .int .i64 c, .int .i64 H, .int .i64 V, .int .i64 C] 62 (0, 0))) (s : Sit 1 kh kw sh sw tp lf bt rt h w c H V C lw lb) (ch at' t u : Int) (st : Nat) (hst : stR 1 kh kw h w c = (st : Int)) :
    Calls Try.prog 66 #[.pointer (some ⟨r, 0, none⟩), .int .i64 ch, .int .i64 at'] W fun e w' => (∃ v, e = .returned v ∧ Nx.Own w' W.heap.size v (plL 1 c ch h w kw t u st)) ∧ Below W.heap.size W w' := by
  obtain ⟨i0, hi0, hz0, hz1, hz2⟩ := info_parts Nx.Try.infoI
  have hL : Hid (∀ w', Below W.heap.size W w' → Calls Try.prog 22 #[.pointer (some ⟨r, 0, none⟩)] w' fun e w'' => e = .returned (.int .i64 st) ∧ ∃ m, w'' = w'.drewN m) := fun w' hb => by rw [← hst]; exact tlen_any 1 a b m kh kw sh sw tp lf bt rt wa lw wc ba lb bc sm ss um us z p lo hi h w c H V C r w' ((hb.block r (lt_of_heap hr)).trans hr) s
  have hlen : st ≤ 512 := by have := s.2.2.2.2.2.2.2.2.2; rw [hst] at this; omega
  have hrc : Hid (∀ w', Below W.heap.size W w' → ∀ i, w'.cell? ⟨r, i, none⟩ = (#[.int .i64 1, .int .i64 a, .int .i64 b, .int .i64 m, .int .i64 kh, .int .i64 kw, .int .i64 sh, .int .i64 sw, .int .i64 tp, .int .i64 lf, .int .i64 bt, .int .i64 rt, .slice wa lw wc, .slice ba lb bc, .int .i64 sm, .int .i64 ss, .int .i64 um, .int .i64 us, .int .i64 z, .int .i64 p, .int .i64 lo, .int .i64 hi, .int .i64 h, .int .i64 w, .int .i64 c, .int .i64 H, .int .i64 V, .int .i64 C] : Array Value)[i]?) := fun w' hb => (cells_at ((hb.block r (lt_of_heap hr)).trans hr)).1
  have hrz : r < W.heap.size := lt_of_heap hr
  clear hst s
  have s0 := (St.start W).new (c := #[.pointer (some ⟨r, 0, none⟩)]) (t := 89)
  refine (callsIn_wide (n := 3)).1 ?_
  refine callsIn_of_wp_marks Try.func66 rfl trivial ?_ rfl
  simp only [Try.ntmps66, List.size_toArray, List.length_cons, List.length_nil, Nat.reduceAdd, Nat.reduceSub, Array.replicate_succ, Array.replicate_zero, List.push_toArray, List.append_toArray, List.nil_append, List.cons_append]
  refine wpIn_wide.2 ?_
  go_wp2_with fail
  refine (hL.out _ s0.below).mono ?_
  rintro e w1 ⟨rfl, m, rfl⟩
  have s1 := s0.call (dbel _ m)
  obtain ⟨w1, hw1⟩ : ∃ w1, (W.alloc (.cells #[.pointer (some ⟨r, 0, none⟩)] 89)).drewN m = w1 := ⟨_, rfl⟩
  rw [hw1] at s1 ⊢
  have hz : W.heap.size + 1 = w1.heap.size := by rw [← hw1]; simp
  clear hw1
  obtain ⟨c1, f1, z1, -⟩ := s1.rules
  go_wp2_with (at_make; refine wpList_make_own _ rfl _ _ 113 rfl w1.heap.size 3 i0 (.int .i64 0) 1 Try.underlying113 hi0 hz0 hz1 .i64 .i64 _ st rfl rfl rfl (by rw [hz2]; omega) (by unfold maxLen; omega) (by omega) ?_; intro w2 own2 gr2; have s2 := s1.call ((Below.refl w1.heap.size w1).grown gr2 (Nat.le_refl _) (fun b hb => by cases hb)); obtain ⟨c1', f1', z1', -⟩ := s2.rules; have hq := hrc.out _ s2.below; have zr := Nat.lt_of_lt_of_le hrz s2.below.size)
  refine (hL.out _ (s2.skip _).below).mono ?_
  rintro e w3 ⟨rfl, m', rfl⟩
  have b3 : Boxed (w2.alloc (.cells #[.slice (some ⟨w1.heap.size, 0, none⟩) 0 st] 113)) w2.heap.size 113 (.slice (some ⟨w1.heap.size, 0, none⟩) 0 st) := heap_alloc_new w2 _
  have o3 : Nx.Own (w2.alloc (.cells #[.slice (some ⟨w1.heap.size, 0, none⟩) 0 st] 113)) w1.heap.size (.slice (some ⟨w1.heap.size, 0, none⟩) 0 st) [] := Nx.Own.alloc (show Nx.Own w2 w1.heap.size (.slice (some ⟨w1.heap.size, 0, none⟩) 0 st) [] from own2) _
  have p3 : Boxed (w2.alloc (.cells #[.slice (some ⟨w1.heap.size, 0, none⟩) 0 st] 113)) W.heap.size 89 (.pointer (some ⟨r, 0, none⟩)) := boxed_below s2.h1 (bal _ _)
  have d3 := (s2.skip (.cells #[.slice (some ⟨w1.heap.size, 0, none⟩) 0 st] 113)).below
  have e3 := dbel (w2.alloc (.cells #[.slice (some ⟨w1.heap.size, 0, none⟩) 0 st] 113)) m'
  have b4 := boxed_below b3 e3
  have o4 := o3.below e3
  have p4 := boxed_below p3 e3
  have d4 := d3.trans (e3.mono d3.size)
  obtain ⟨w4, hw4⟩ : ∃ w4, (w2.alloc (.cells #[.slice (some ⟨w1.heap.size, 0, none⟩) 0 st] 113)).drewN m' = w4 := ⟨_, rfl⟩
  rw [hw4] at b4 o4 p4 d4 ⊢
  have hz2' : w2.heap.size < w4.heap.size := by rw [← hw4]; simp
  have gz := gr2.size
  have B4 : Hid (Boxed _ _ _ _) := b4
  have O4 : Hid (Nx.Own _ _ _ _) := o4
  have P4 : Hid (Boxed _ _ _ _) := p4
  have D4 : Hid (Below _ _ _) := d4
  clear hw4 b3 o3 p3 d3 e3 own2 gr2 s0 s1 s2 c1 f1 c1' f1' hq b4 o4 p4 d4 z1 z1'
  go_wp2
  go_loopw [25] (fun i wr => ∃ y : Nat, y ≤ st ∧ i = .int .i64 y ∧ ∃ v, Boxed wr w2.heap.size 113 v ∧ Nx.Own wr w1.heap.size v (plL 1 c ch h w kw t u y) ∧ Boxed wr W.heap.size 89 (.pointer (some ⟨r, 0, none⟩)) ∧ Below W.heap.size W wr ∧ w4.heap.size ≤ wr.heap.size) (fun i _ => st - (intOf i).toNat)
  case atStart => exact ⟨0, Nat.zero_le _, rfl, _, B4.out, O4.out, P4.out, D4.out, Nat.le_refl _⟩
  case round =>
    obtain ⟨y, hy, rfl, v, hv, hown, hp, hb, hwz⟩ := hrel
    obtain ⟨a', cap, rfl⟩ := Nx.ownsRow_slice hown
    have hc := hv.cell
    have hf := hv.frozen
    have hbs := hb.size
    have HL : Hid ((plL 1 c ch h w kw t u y).length = y) := plL_len _ _ _ _ _ _ _ _ _
    have HS : Hid (plL 1 c ch h w kw t u (y + 1) = plL 1 c ch h w kw t u y ++ [(y : Int)]) := plL_succ _ _ _ _ _ _ _ _ _
    clear B4 O4 P4 D4
    by_cases hlt : y < st
    · go_wp2_with (at_builtin; refine Nx.wpList_app rfl (.tmp 28) (.tmp 30) rfl w1.heap.size _ _ [(y : Int)] rfl (hown.alloc _) _ _ _ rfl (Nx.row_one _ _) (by rw [HL.out]; simp; omega) (by simp; omega) ?_; intro v' w5 own' gr'; have own5 : w5.ownsRow w1.heap.size 3 1 v' (y + 1) ((plL 1 c ch h w kw t u (y + 1)).map (Value.int .i64)) := (by have q := own'; unfold Nx.Own at q; rw [← HS.out, plL_len] at q; exact q); obtain ⟨a5, cap5, rfl⟩ := Nx.ownsRow_slice own5; obtain ⟨hv1, hv2, hr2, hk2, hm2, hb2, -, hx2⟩ := Nx.appended (lo := 0) (n0 := W.heap.size) hv hown (by omega) ⟨by omega, .inr (by omega)⟩ (by omega) own5 gr'; have hc1 := hv1.cell; have hf1 := hv1.frozen)
      go_roundw
      case rel => exact ⟨y + 1, by omega, by go_num, _, hv2, by unfold Nx.Own; rw [plL_len]; exact hr2, hx2 _ _ _ (by omega) (by decide) hp, hb.trans hb2, Nat.le_trans hwz hb2.size⟩
      case measure => simp [intOf]; omega
    · obtain rfl : y = st := by omega
      go_wp2
      exact ⟨.slice a' _ cap, by simp [results, Try.f66, go_sem], ⟨_, rfl, hown.base (by omega)⟩, hb⟩
end Go.Proofs.Ytgiohlcipndakaa
