/- Safe, Most and Choose of package depth, of what they ask. Choose of package depth, of what it asks. Sums of weights, in plain numbers, and what they say at once. What the answers of package bound hold, in plain numbers: one another; over wider spans; Quick. The four hulls in plain numbers: what is known of them, how they lie in one another, wider spans. The depths that are safe, in plain numbers: none but those where the products fit; wider spans; the best plan. What Safe, Most and Choose answer of a model. -/
import Derived.Test.YtgiohlcipndakaaGreatGz22
import Derived.Test.YtgiohlcipndakaaGreatGz23
import Derived.Test.YtgiohlcipndakaaGreatGz24
import Derived.Test.YtgiohlcipndakaaGreatGz29
/- Safe, Most and Choose of package depth, of what they ask. -/
namespace Go.Proofs.YtgiohlcipndakaaGreat
open Go.Value renaming int → U
open Go.IntKind renaming i64 → i6
set_option maxRecDepth 100000
set_option maxHeartbeats 16000000
open Go.ChangeShapes Go.WideShapes Go.ChangeAt Go.RowKit
set_option linter.unusedVariables false
def saB (A B E : Int) : Bool := decide (E = 0) && w16 (A, B)
theorem saB_0 (A B : Int) : saB A B 0 = wiB (-32768) 32767 A B := by unfold saB w16; simp
theorem saB_e {A B E : Int} (h : E ≠ 0) : saB A B E = false := by unfold saB; simp [h]
theorem dsaf_w (h w c lo hi ot op ch : Int) (oa : Option Addr) (on oc : Nat) (W : World) (slo shi : Int) (dp A B E : Int) (hP : ∀ W', Below W.heap.size W W' → Calls Tryz.prog 15 #[.agg #[U i6 h, U i6 w, U i6 c, U i6 lo, U i6 hi, .slice oa on oc, U i6 ot], U i6 op, U i6 ch, .agg #[U i6 slo, U i6 shi], U i6 dp] W' fun e w' => e = .returned (.tuple #[.agg #[U i6 A, U i6 B], U i6 E]) ∧ Below W'.heap.size W' w') :
  Calls Tryz.prog 6 #[.agg #[U i6 h, U i6 w, U i6 c, U i6 lo, U i6 hi, .slice oa on oc, U i6 ot], U i6 op, U i6 ch, .agg #[U i6 slo, U i6 shi], U i6 dp] W fun e w' => e = .returned (.tuple #[.bool (saB A B E), U i6 E]) ∧ Below W.heap.size W w' := by
 have HP : Hid (∀ W', Below W.heap.size W W' → _) := hP
 have s0 := ((St.start W).new (c := #[U i6 h, U i6 w, U i6 c, U i6 lo, U i6 hi, .slice oa on oc, U i6 ot]) (t := 26)).new (c := #[U i6 slo, U i6 shi]) (t := 28)
 simp only [World.size_alloc] at s0
 clear hP
 by_cases h0 : E = 0
 ·subst h0
  rw [saB_0]
  have HW : Hid (∀ w, _) := fun w => dwit_any (-32768) 32767 A B w
  have H6 : Hid (∀ w, _) := fun w => d16_any w
  go_enter Tryz.func6, Tryz.ntmps6
  go_wp2_with fail
  refine (HP.out _ s0.below).mono ?_
  rintro e w1 ⟨rfl, hb⟩
  have s1 := (s0.call hb).new (c := #[U i6 A, U i6 B]) (t := 28)
  clear hb s0 HP
  go_wp2_with fail
  obtain ⟨c1, g1, c2, g2, c3, g3, -⟩ := rulesQ_st s1
  have hne := Nonempty.intro (Wd.mk _ s1)
  refine region_held s1 (by kernel_rfl) (by kernel_rfl) ?_
  repeat (first
   | (go_big_quiet_step ((go_at_call 17; exact held_of (H6.out _))))
   | (go_big_quiet_step ((go_at_call 16; exact held_of (HW.out _)))))
  refine wpQuiet_nil ?_
  intro _ hw'
  obtain ⟨nq, rfl⟩ := hw'
  have s8 := nq.h
  obtain ⟨w8, hw8⟩ : ∃ w, nq.w = w := ⟨_, rfl⟩
  rw [hw8] at s8 ⊢
  clear c1 g1 c2 g2 c3 g3 hne s1 hw8
  go_wp2
  exact bodyPost_ret (v := .tuple #[.bool (wiB (-32768) 32767 A B), U i6 0]) (by simp [results, Tryz.results6, go_sem]) rfl ⟨rfl, s8.below⟩
 ·rw [saB_e h0]
  have hE' : (E == 0) = false := by simp [h0]
  go_enter Tryz.func6, Tryz.ntmps6
  go_wp2_with fail
  refine (HP.out _ s0.below).mono ?_
  rintro e w1 ⟨rfl, hb⟩
  have s1 := (s0.call hb).new (c := #[U i6 A, U i6 B]) (t := 28)
  clear hb s0 HP
  go_wp2
  exact bodyPost_ret (v := .tuple #[.bool false, U i6 E]) (by simp [results, Tryz.results6, go_sem]) rfl ⟨rfl, s1.below⟩
theorem dclo_w (h w c lo hi ot op ch : Int) (oa : Option Addr) (on oc : Nat) (W : World) (slo shi : Int) (a1 a2 a3 a4 : Nat) (h1 : W.heap[a1]? = some (.cells #[U i6 h, U i6 w, U i6 c, U i6 lo, U i6 hi, .slice oa on oc, U i6 ot] 26 (0, 0))) (h2 : W.heap[a2]? = some (.cells #[U i6 op] 3 (0, 0))) (h3 : W.heap[a3]? = some (.cells #[U i6 ch] 3 (0, 0))) (h4 : W.heap[a4]? = some (.cells #[U i6 slo, U i6 shi] 28 (0, 0))) (dp E : Int) (v : Bool)
  (hS : Calls Tryz.prog 6 #[.agg #[U i6 h, U i6 w, U i6 c, U i6 lo, U i6 hi, .slice oa on oc, U i6 ot], U i6 op, U i6 ch, .agg #[U i6 slo, U i6 shi], U i6 dp] W fun e w' => e = .returned (.tuple #[.bool v, U i6 E]) ∧ Below W.heap.size W w') :
  Calls Tryz.prog 27 #[U i6 dp, .pointer (some ⟨a1, 0, none⟩), .pointer (some ⟨a2, 0, none⟩), .pointer (some ⟨a3, 0, none⟩), .pointer (some ⟨a4, 0, none⟩)] W fun e w' => e = .returned (.bool v) ∧ Below W.heap.size W w' := by
 have HS : Hid (Calls _ _ _ _ _) := hS
 obtain ⟨c1, f1, z1⟩ := cells_at h1
 obtain ⟨c2, f2, z2⟩ := cells_at h2
 obtain ⟨c3, f3, z3⟩ := cells_at h3
 obtain ⟨c4, f4, z4⟩ := cells_at h4
 clear hS h1 h2 h3 h4
 go_enter Tryz.func27, Tryz.ntmps27
 go_wp2_with fail
 refine HS.out.mono ?_
 rintro e w1 ⟨rfl, hb⟩
 have HB : Hid (Below W.heap.size W w1) := hb
 clear hb HS
 go_wp2
 go_ret
 exact ⟨rfl, HB.out⟩
theorem dlen_w (k a b m kh kw sh sw tp lf bt rt : Int) (wa : Option Addr) (lw wc : Nat) (ba : Option Addr) (lb bc : Nat) (sm ss um us z p l0 h0 : Int) (N : Nat) (W : World) (h4 : k = 4 → (1 ≤ kh ∧ kh ≤ 32) ∧ (1 ≤ kw ∧ kw ≤ 32) ∧ kh * kw = (N : Int)) (hn4 : k ≠ 4 → 0 < lb ∧ (lw : Int) = (lb : Int) * (N : Int)) (hN : N ≤ 512) :
  Calls Tryz.prog 26 #[.agg #[U i6 k, U i6 a, U i6 b, U i6 m, U i6 kh, U i6 kw, U i6 sh, U i6 sw, U i6 tp, U i6 lf, U i6 bt, U i6 rt, .slice wa lw wc, .slice ba lb bc, U i6 sm, U i6 ss, U i6 um, U i6 us, U i6 z, U i6 p, U i6 l0, U i6 h0]] W fun e w' => e = .returned (U i6 (N : Int)) ∧ Below W.heap.size W w' := by
 have s0 := (St.start W).new (c := #[U i6 k, U i6 a, U i6 b, U i6 m, U i6 kh, U i6 kw, U i6 sh, U i6 sw, U i6 tp, U i6 lf, U i6 bt, U i6 rt, .slice wa lw wc, .slice ba lb bc, U i6 sm, U i6 ss, U i6 um, U i6 us, U i6 z, U i6 p, U i6 l0, U i6 h0]) (t := 43)
 by_cases hk : k = 4
 ·subst hk
  obtain ⟨q1, q2, q3⟩ := h4 rfl
  have hw : IntKind.i64.wrap (kh * kw) = (N : Int) := by rw [q3, IntKind.wrap_i64]; omega
  clear h4 hn4
  go_enter Tryz.func26, Tryz.ntmps26
  go_wp2
  go_ret
  exact ⟨rfl, s0.below⟩
 ·obtain ⟨q1, q2⟩ := hn4 hk
  have hk' : (k == 4) = false := by simp [hk]
  clear h4 hn4
  go_enter Tryz.func26, Tryz.ntmps26
  go_wp2
  have hw : wrap64 (((lb : Int) * (N : Int)).tdiv (lb : Int)) = (N : Int) := by rw [Int.mul_tdiv_cancel_left _ (by omega)]; unfold wrap64; omega
  go_ret
  exact ⟨by show Ending.returned (Value.int .i64 (wrap64 _)) = _; rw [hw], s0.below⟩
theorem dmos_e (h w c lo hi ot op ch : Int) (oa : Option Addr) (on oc : Nat) (W : World) (slo shi : Int) (A B E : Int) (h0 : E ≠ 0) (hP : ∀ W', Below W.heap.size W W' → Calls Tryz.prog 24 #[.agg #[U i6 h, U i6 w, U i6 c, U i6 lo, U i6 hi, .slice oa on oc, U i6 ot], U i6 op, U i6 ch, .agg #[U i6 slo, U i6 shi]] W' fun e w' => e = .returned (.tuple #[.agg #[U i6 A, U i6 B], U i6 E]) ∧ Below W'.heap.size W' w') :
  Calls Tryz.prog 11 #[.agg #[U i6 h, U i6 w, U i6 c, U i6 lo, U i6 hi, .slice oa on oc, U i6 ot], U i6 op, U i6 ch, .agg #[U i6 slo, U i6 shi]] W fun e w' => e = .returned (.tuple #[U i6 0, U i6 E]) ∧ Below W.heap.size W w' := by
 have HP : Hid (∀ W', Below W.heap.size W W' → _) := hP
 have s0 := ((((St.start W).new (c := #[U i6 h, U i6 w, U i6 c, U i6 lo, U i6 hi, .slice oa on oc, U i6 ot]) (t := 26)).new (c := #[U i6 op]) (t := 3)).new (c := #[U i6 ch]) (t := 3)).new (c := #[U i6 slo, U i6 shi]) (t := 28)
 simp only [World.size_alloc] at s0
 clear hP
 have hE' : (E == 0) = false := by simp [h0]
 go_enter Tryz.func11, Tryz.ntmps11
 go_wp2_with fail
 refine (HP.out _ s0.below).mono ?_
 rintro e w1 ⟨rfl, hb⟩
 have s1 := (s0.call hb).new (c := #[U i6 A, U i6 B]) (t := 28)
 clear hb s0 HP
 go_wp2
 exact bodyPost_ret (v := .tuple #[U i6 0, U i6 E]) (by simp [results, Tryz.results11, go_sem]) rfl ⟨rfl, s1.below⟩
theorem dmos_n (h w c lo hi ot op ch : Int) (oa : Option Addr) (on oc : Nat) (W : World) (slo shi : Int) (A B E : Int) (h0 : E = 0) (hP : ∀ W', Below W.heap.size W W' → Calls Tryz.prog 24 #[.agg #[U i6 h, U i6 w, U i6 c, U i6 lo, U i6 hi, .slice oa on oc, U i6 ot], U i6 op, U i6 ch, .agg #[U i6 slo, U i6 shi]] W' fun e w' => e = .returned (.tuple #[.agg #[U i6 A, U i6 B], U i6 E]) ∧ Below W'.heap.size W' w') (hn : wiB (-32768) 32767 A B = false) :
  Calls Tryz.prog 11 #[.agg #[U i6 h, U i6 w, U i6 c, U i6 lo, U i6 hi, .slice oa on oc, U i6 ot], U i6 op, U i6 ch, .agg #[U i6 slo, U i6 shi]] W fun e w' => e = .returned (.tuple #[U i6 0, U i6 0]) ∧ Below W.heap.size W w' := by
 subst h0
 have HP : Hid (∀ W', Below W.heap.size W W' → _) := hP
 have HW : Hid (∀ w, _) := fun w => dwit_any (-32768) 32767 A B w
 have H6 : Hid (∀ w, _) := fun w => d16_any w
 rw [hn] at HW
 have s0 := ((((St.start W).new (c := #[U i6 h, U i6 w, U i6 c, U i6 lo, U i6 hi, .slice oa on oc, U i6 ot]) (t := 26)).new (c := #[U i6 op]) (t := 3)).new (c := #[U i6 ch]) (t := 3)).new (c := #[U i6 slo, U i6 shi]) (t := 28)
 simp only [World.size_alloc] at s0
 clear hP hn
 go_enter Tryz.func11, Tryz.ntmps11
 go_wp2_with fail
 refine (HP.out _ s0.below).mono ?_
 rintro e w1 ⟨rfl, hb⟩
 have s1 := (s0.call hb).new (c := #[U i6 A, U i6 B]) (t := 28)
 clear hb s0 HP
 go_wp2_with fail
 obtain ⟨c1, g1, c2, g2, c3, g3, c4, g4, c5, g5, -⟩ := rulesQ_st s1
 have hne := Nonempty.intro (Wd.mk _ s1)
 refine region_held s1 (by kernel_rfl) (by kernel_rfl) ?_
 repeat (first
  | (go_big_quiet_step ((go_at_call 17; exact held_of (H6.out _))))
  | (go_big_quiet_step ((go_at_call 16; exact held_of (HW.out _)))))
 refine wpQuiet_nil ?_
 intro _ hw'
 obtain ⟨nq, rfl⟩ := hw'
 have s8 := nq.h
 obtain ⟨w8, hw8⟩ : ∃ w, nq.w = w := ⟨_, rfl⟩
 rw [hw8] at s8 ⊢
 clear c1 g1 c2 g2 c3 g3 c4 g4 c5 g5 hne s1 hw8
 go_wp2
 exact bodyPost_ret (v := .tuple #[U i6 0, U i6 0]) (by simp [results, Tryz.results11, go_sem]) rfl ⟨rfl, s8.below⟩
theorem dmos_y (h w c lo hi ot op ch : Int) (x : Addr) (on oc : Nat) (W : World) (slo shi : Int) (A B : Int) (hP : ∀ W', Below W.heap.size W W' → Calls Tryz.prog 24 #[.agg #[U i6 h, U i6 w, U i6 c, U i6 lo, U i6 hi, .slice (some x) on oc, U i6 ot], U i6 op, U i6 ch, .agg #[U i6 slo, U i6 shi]] W' fun e w' => e = .returned (.tuple #[.agg #[U i6 A, U i6 B], U i6 0]) ∧ Below W'.heap.size W' w') (hn : wiB (-32768) 32767 A B = true) (i : Nat) (hi0 : i < on) (hio : op = (i : Int) + 1) (hon : on ≤ 1000000) (k a b m kh kw sh sw tp lf bt rt : Int) (wa : Option Addr) (lw wc : Nat) (ba : Option Addr) (lb bc : Nat) (sm ss um us z p l0 h0 : Int) (hc : ∀ (q : Nat) (v : Value), (#[U i6 k, U i6 a, U i6 b, U i6 m, U i6 kh, U i6 kw, U i6 sh, U i6 sw, U i6 tp, U i6 lf, U i6 bt, U i6 rt, .slice wa lw wc, .slice ba lb bc, U i6 sm, U i6 ss, U i6 um, U i6 us, U i6 z, U i6 p, U i6 l0, U i6 h0]).toList[q]? = some v → W.cell? ((x.add (i * 22)).add q) = some v) (N : Nat) (hN : N ≤ 512) (S : Nat → Bool)
  (hLn : ∀ W', Calls Tryz.prog 26 #[.agg #[U i6 k, U i6 a, U i6 b, U i6 m, U i6 kh, U i6 kw, U i6 sh, U i6 sw, U i6 tp, U i6 lf, U i6 bt, U i6 rt, .slice wa lw wc, .slice ba lb bc, U i6 sm, U i6 ss, U i6 um, U i6 us, U i6 z, U i6 p, U i6 l0, U i6 h0]] W' fun e w' => e = .returned (U i6 (N : Int)) ∧ Below W'.heap.size W' w')
  (hSf : ∀ W' (d : Nat), Below W.heap.size W W' → 1 ≤ d → d ≤ N → Calls Tryz.prog 6 #[.agg #[U i6 h, U i6 w, U i6 c, U i6 lo, U i6 hi, .slice (some x) on oc, U i6 ot], U i6 op, U i6 ch, .agg #[U i6 slo, U i6 shi], U i6 (d : Int)] W' fun e w' => e = .returned (.tuple #[.bool (S d), U i6 0]) ∧ Below W'.heap.size W' w') :
  Calls Tryz.prog 11 #[.agg #[U i6 h, U i6 w, U i6 c, U i6 lo, U i6 hi, .slice (some x) on oc, U i6 ot], U i6 op, U i6 ch, .agg #[U i6 slo, U i6 shi]] W fun e w' => e = .returned (.tuple #[U i6 ((grN S N : Nat) : Int), U i6 0]) ∧ Below W.heap.size W w' := by
 have HP : Hid (∀ W', Below W.heap.size W W' → _) := hP
 have HW : Hid (∀ w, _) := fun w => dwit_any (-32768) 32767 A B w
 have H6 : Hid (∀ w, _) := fun w => d16_any w
 rw [hn] at HW
 have HL : Hid (∀ W', _) := hLn
 have HS : Hid (∀ W' (d : Nat), Below W.heap.size W W' → 1 ≤ d → d ≤ N → _) := hSf
 have HC : Hid (∀ (q : Nat) (v : Value), (#[U i6 k, U i6 a, U i6 b, U i6 m, U i6 kh, U i6 kw, U i6 sh, U i6 sw, U i6 tp, U i6 lf, U i6 bt, U i6 rt, .slice wa lw wc, .slice ba lb bc, U i6 sm, U i6 ss, U i6 um, U i6 us, U i6 z, U i6 p, U i6 l0, U i6 h0]).toList[q]? = some v → W.cell? ((x.add (i * 22)).add q) = some v) := hc
 have hmf : ∀ (fn : Fn) (first cap : Array Value) (w : World), (Instr.makeFunc fn first cap).run Tryz.prog w = .ok (.func fn first cap) w := fun _ _ _ _ => rfl
 have s0 := ((((St.start W).new (c := #[U i6 h, U i6 w, U i6 c, U i6 lo, U i6 hi, .slice (some x) on oc, U i6 ot]) (t := 26)).new (c := #[U i6 op]) (t := 3)).new (c := #[U i6 ch]) (t := 3)).new (c := #[U i6 slo, U i6 shi]) (t := 28)
 simp only [World.size_alloc] at s0
 subst hio
 clear hP hn hLn hSf hc
 go_enter Tryz.func11, Tryz.ntmps11
 go_wp2_with fail
 refine (HP.out _ s0.below).mono ?_
 rintro e w1 ⟨rfl, hb⟩
 have s1 := (s0.call hb).new (c := #[U i6 A, U i6 B]) (t := 28)
 clear hb s0 HP
 go_wp2_with fail
 obtain ⟨c1, g1, c2, g2, c3, g3, c4, g4, c5, g5, -⟩ := rulesQ_st s1
 have hne := Nonempty.intro (Wd.mk _ s1)
 refine region_held s1 (by kernel_rfl) (by kernel_rfl) ?_
 repeat (first
  | (go_big_quiet_step ((go_at_call 17; exact held_of (H6.out _))))
  | (go_big_quiet_step ((go_at_call 16; exact held_of (HW.out _)))))
 refine wpQuiet_nil ?_
 intro _ hw'
 obtain ⟨nq, rfl⟩ := hw'
 have s8 := nq.h
 obtain ⟨w8, hw8⟩ : ∃ w, nq.w = w := ⟨_, rfl⟩
 rw [hw8] at s8 ⊢
 clear c1 g1 c2 g2 c3 g3 c4 g4 c5 g5 hne s1 hw8 HW H6
 obtain ⟨c1, f1, z1, c2, f2, z2, c3, f3, z3, c4, f4, z4, c5, f5, z5, -⟩ := s8.rules
 have S8 : Hid (St W w8 _) := s8
 have HC8 : Hid (∀ (q : Nat) (v : Value), (#[U i6 k, U i6 a, U i6 b, U i6 m, U i6 kh, U i6 kw, U i6 sh, U i6 sw, U i6 tp, U i6 lf, U i6 bt, U i6 rt, .slice wa lw wc, .slice ba lb bc, U i6 sm, U i6 ss, U i6 um, U i6 us, U i6 z, U i6 p, U i6 l0, U i6 h0]).toList[q]? = some v → w8.cell? ((x.add (i * 22)).add q) = some v) := fun q v hq => (s8.below.cell (World.block_lt_of_cell? W _ (HC.out q v hq))).trans (HC.out q v hq)
 clear s8 HC
 go_wp2_with (refine wpList_load_any rfl 43 (.tmp 31) rfl (x.add (i * 22)) rfl (#[U i6 k, U i6 a, U i6 b, U i6 m, U i6 kh, U i6 kw, U i6 sh, U i6 sw, U i6 tp, U i6 lf, U i6 bt, U i6 rt, .slice wa lw wc, .slice ba lb bc, U i6 sm, U i6 ss, U i6 um, U i6 us, U i6 z, U i6 p, U i6 l0, U i6 h0]).toList _ HC8.out Tryz.underlying43 rfl (by kernel_rfl) ?_)
 refine (HL.out _).mono ?_
 rintro e w9 ⟨rfl, hb9⟩
 have s9 := S8.out.call hb9
 have HG : Hid _ := dgre_any N (by omega) S 27 #[.pointer (some ⟨W.heap.size, 0, none⟩), .pointer (some ⟨W.heap.size + 1, 0, none⟩), .pointer (some ⟨W.heap.size + 1 + 1, 0, none⟩), .pointer (some ⟨W.heap.size + 1 + 1 + 1, 0, none⟩)] w9 (enters_of Tryz.func27 (by kernel_rfl) rfl) (fun W' d hb h1 h2 => dclo_w h w c lo hi ot ((i : Int) + 1) ch (some x) on oc W' slo shi W.heap.size (W.heap.size + 1) (W.heap.size + 1 + 1) (W.heap.size + 1 + 1 + 1) ((s9.call hb).tail.h4) ((s9.call hb).tail.h3) ((s9.call hb).tail.h2) ((s9.call hb).tail.h1) d 0 (S d) (HS.out W' d ((s9.call hb).below) h1 h2))
 have S9 : Hid (St W w9 _) := s9
 clear hb9 s9 HL HS S8 HC8 c1 f1 z1 c2 f2 z2 c3 f3 z3 c4 f4 z4 c5 f5 z5
 go_wp2_with fail
 refine Calls.mono HG.out ?_
 rintro e w10 ⟨rfl, hb⟩
 have HB : Hid (Below W.heap.size W w10) := (S9.out.call hb).below
 clear hb S9 HG
 go_wp2
 exact bodyPost_ret (v := .tuple #[U i6 ((grN S N : Nat) : Int), U i6 0]) (by simp [results, Tryz.results11, go_sem]) rfl ⟨rfl, HB.out⟩
theorem St.six {w0 w : World} {B : Nat} {c0 c1 c2 c3 c4 c5 u0 u1 u2 u3 u4 u5 : Value} {t : TypeId} {l : List (Nat × Array Value × TypeId)} (h : St w0 w ((B, #[c0, c1, c2, c3, c4, c5], t) :: l)) (hl : ∀ x ∈ l, x.1 ≠ B) :
  St w0 ((((((w.setCell ⟨B, 0, none⟩ u0).setCell ⟨B, 1, none⟩ u1).setCell ⟨B, 2, none⟩ u2).setCell ⟨B, 3, none⟩ u3).setCell ⟨B, 4, none⟩ u4).setCell ⟨B, 5, none⟩ u5) ((B, #[u0, u1, u2, u3, u4, u5], t) :: l) :=
 (((((h.set hl (i := 0) (v := u0)).set hl (i := 1) (v := u1)).set hl (i := 2) (v := u2)).set hl (i := 3) (v := u3)).set hl (i := 4) (v := u4)).set hl (i := 5) (v := u5)
theorem regionN {P : Program} {ops : Array Oper} {Q : Exit → Act → World → Prop} {id : Nat} {a : Act} {w : World} (C : World → Prop) (M : Act → Act → World → Prop) (hm : P.follows .mixedOrders = true) (g : wpAnyC Fence.wide 3 P .any ops C (Qm (M a)) ops.size (Array.replicate ops.size false) a w.drew) (h : ∀ a' w, M a a' w → Q .normal a' w) : (Code.region id ops true).wp P Q a w :=
 regionM C (M a) hm g h
theorem dcho_e (h w c lo hi ot op ch : Int) (oa : Option Addr) (on oc : Nat) (W : World) (slo shi : Int) (R1 R2 E : Int) (h0 : E ≠ 0) (hR : ∀ W', Below W.heap.size W W' → Calls Tryz.prog 28 #[.agg #[U i6 h, U i6 w, U i6 c, U i6 lo, U i6 hi, .slice oa on oc, U i6 ot], U i6 op, U i6 ch, .agg #[U i6 slo, U i6 shi]] W' fun e w' => e = .returned (.tuple #[.agg #[U i6 R1, U i6 R2], U i6 E]) ∧ Below W'.heap.size W' w') :
  Calls Tryz.prog 13 #[.agg #[U i6 h, U i6 w, U i6 c, U i6 lo, U i6 hi, .slice oa on oc, U i6 ot], U i6 op, U i6 ch, .agg #[U i6 slo, U i6 shi]] W fun e w' => e = .returned (.tuple #[.agg #[U i6 0, U i6 0, U i6 0, U i6 0, U i6 0, U i6 0], U i6 E]) ∧ Below W.heap.size W w' := by
 have HR : Hid (∀ W', Below W.heap.size W W' → _) := hR
 have s0 := (((St.start W).new (c := #[U i6 h, U i6 w, U i6 c, U i6 lo, U i6 hi, .slice oa on oc, U i6 ot]) (t := 26)).new (c := #[U i6 slo, U i6 shi]) (t := 28)).new (c := #[U i6 0, U i6 0, U i6 0, U i6 0, U i6 0, U i6 0]) (t := 30)
 simp only [World.size_alloc] at s0
 clear hR
 have hE' : (E == 0) = false := by simp [h0]
 go_enter Tryz.func13, Tryz.ntmps13
 go_wp2_with fail
 refine (HR.out _ s0.below).mono ?_
 rintro e w1 ⟨rfl, hb⟩
 have s1 := (s0.call hb).new (c := #[U i6 R1, U i6 R2]) (t := 28)
 clear hb s0 HR
 obtain ⟨c1, f1, z1, c2, f2, z2, -⟩ := s1.rules
 have s2 := s1.tail.six (u0 := U i6 0) (u1 := U i6 0) (u2 := U i6 0) (u3 := U i6 0) (u4 := U i6 0) (u5 := U i6 0) (by simp; omega)
 obtain ⟨cF, -⟩ := s2.rules
 have HB : Hid (Below W.heap.size W _) := s2.below
 clear s1 s2
 go_wp2
 exact bodyPost_ret (v := .tuple #[.agg #[U i6 0, U i6 0, U i6 0, U i6 0, U i6 0, U i6 0], U i6 E]) (by simp [results, Tryz.results13, go_sem, cF]) rfl ⟨rfl, HB.out⟩
theorem dcho_n (h w c lo hi ot op ch : Int) (oa : Option Addr) (on oc : Nat) (W : World) (slo shi : Int) (R1 R2 E : Int) (h0 : E = 0) (hR : ∀ W', Below W.heap.size W W' → Calls Tryz.prog 28 #[.agg #[U i6 h, U i6 w, U i6 c, U i6 lo, U i6 hi, .slice oa on oc, U i6 ot], U i6 op, U i6 ch, .agg #[U i6 slo, U i6 shi]] W' fun e w' => e = .returned (.tuple #[.agg #[U i6 R1, U i6 R2], U i6 E]) ∧ Below W'.heap.size W' w') (hn : wiB (-2147483648) 2147483647 R1 R2 = false) :
  Calls Tryz.prog 13 #[.agg #[U i6 h, U i6 w, U i6 c, U i6 lo, U i6 hi, .slice oa on oc, U i6 ot], U i6 op, U i6 ch, .agg #[U i6 slo, U i6 shi]] W fun e w' => e = .returned (.tuple #[.agg #[U i6 0, U i6 0, U i6 0, U i6 0, U i6 0, U i6 0], U i6 154]) ∧ Below W.heap.size W w' := by
 subst h0
 have HR : Hid (∀ W', Below W.heap.size W W' → _) := hR
 have HW : Hid (∀ w, _) := fun w => dwit_any (-2147483648) 2147483647 R1 R2 w
 have H6 : Hid (∀ w, _) := fun w => d32_any w
 rw [hn] at HW
 have s0 := (((St.start W).new (c := #[U i6 h, U i6 w, U i6 c, U i6 lo, U i6 hi, .slice oa on oc, U i6 ot]) (t := 26)).new (c := #[U i6 slo, U i6 shi]) (t := 28)).new (c := #[U i6 0, U i6 0, U i6 0, U i6 0, U i6 0, U i6 0]) (t := 30)
 simp only [World.size_alloc] at s0
 clear hR hn
 go_enter Tryz.func13, Tryz.ntmps13
 go_wp2_with fail
 refine (HR.out _ s0.below).mono ?_
 rintro e w1 ⟨rfl, hb⟩
 have s1 := (s0.call hb).new (c := #[U i6 R1, U i6 R2]) (t := 28)
 clear hb s0 HR
 go_wp2_with fail
 obtain ⟨c1, g1, c2, g2, c3, g3, c4, g4, -⟩ := rulesQ_st s1
 have hne := Nonempty.intro (Wd.mk _ s1)
 refine region_held s1 (by kernel_rfl) (by kernel_rfl) ?_
 repeat (first
  | (go_big_quiet_step ((go_at_call 29; exact held_of (H6.out _))))
  | (go_big_quiet_step ((go_at_call 16; exact held_of (HW.out _)))))
 refine wpQuiet_nil ?_
 intro _ hw'
 obtain ⟨nq, rfl⟩ := hw'
 have s8 := nq.h
 obtain ⟨w8, hw8⟩ : ∃ w, nq.w = w := ⟨_, rfl⟩
 rw [hw8] at s8 ⊢
 clear c1 g1 c2 g2 c3 g3 c4 g4 hne s1 hw8
 obtain ⟨c1, f1, z1, c2, f2, z2, -⟩ := s8.rules
 have s2 := s8.tail.six (u0 := U i6 0) (u1 := U i6 0) (u2 := U i6 0) (u3 := U i6 0) (u4 := U i6 0) (u5 := U i6 0) (by simp; omega)
 obtain ⟨cF, -⟩ := s2.rules
 have HB : Hid (Below W.heap.size W _) := s2.below
 clear s8 s2
 go_wp2
 exact bodyPost_ret (v := .tuple #[.agg #[U i6 0, U i6 0, U i6 0, U i6 0, U i6 0, U i6 0], U i6 154]) (by simp [results, Tryz.results13, go_sem, cF]) rfl ⟨rfl, HB.out⟩
theorem dcho_y (h w c lo hi ot op ch : Int) (x : Addr) (on oc : Nat) (W : World) (slo shi : Int) (R1 R2 P1 P2 T1 T2 : Int) (hR : ∀ W', Below W.heap.size W W' → Calls Tryz.prog 28 #[.agg #[U i6 h, U i6 w, U i6 c, U i6 lo, U i6 hi, .slice (some x) on oc, U i6 ot], U i6 op, U i6 ch, .agg #[U i6 slo, U i6 shi]] W' fun e w' => e = .returned (.tuple #[.agg #[U i6 R1, U i6 R2], U i6 0]) ∧ Below W'.heap.size W' w') (hn : wiB (-2147483648) 2147483647 R1 R2 = true) (i : Nat) (hi0 : i < on) (hio : op = (i : Int) + 1) (hon : on ≤ 1000000) (k a b m kh kw sh sw tp lf bt rt : Int) (wa : Option Addr) (lw wc : Nat) (ba : Option Addr) (lb bc : Nat) (sm ss um us z p l0 h0 : Int) (hc : ∀ (q : Nat) (v : Value), (#[U i6 k, U i6 a, U i6 b, U i6 m, U i6 kh, U i6 kw, U i6 sh, U i6 sw, U i6 tp, U i6 lf, U i6 bt, U i6 rt, .slice wa lw wc, .slice ba lb bc, U i6 sm, U i6 ss, U i6 um, U i6 us, U i6 z, U i6 p, U i6 l0, U i6 h0]).toList[q]? = some v → W.cell? ((x.add (i * 22)).add q) = some v) (N K : Nat) (hN : N ≤ 512) (hK : K ≤ 512)
  (hLn : ∀ W', Calls Tryz.prog 26 #[.agg #[U i6 k, U i6 a, U i6 b, U i6 m, U i6 kh, U i6 kw, U i6 sh, U i6 sw, U i6 tp, U i6 lf, U i6 bt, U i6 rt, .slice wa lw wc, .slice ba lb bc, U i6 sm, U i6 ss, U i6 um, U i6 us, U i6 z, U i6 p, U i6 l0, U i6 h0]] W' fun e w' => e = .returned (U i6 (N : Int)) ∧ Below W'.heap.size W' w')
  (hM : ∀ W', Below W.heap.size W W' → Calls Tryz.prog 11 #[.agg #[U i6 h, U i6 w, U i6 c, U i6 lo, U i6 hi, .slice (some x) on oc, U i6 ot], U i6 op, U i6 ch, .agg #[U i6 slo, U i6 shi]] W' fun e w' => e = .returned (.tuple #[U i6 (K : Int), U i6 0]) ∧ Below W'.heap.size W' w') (hP : 0 < K → ∀ W', Below W.heap.size W W' → Calls Tryz.prog 15 #[.agg #[U i6 h, U i6 w, U i6 c, U i6 lo, U i6 hi, .slice (some x) on oc, U i6 ot], U i6 op, U i6 ch, .agg #[U i6 slo, U i6 shi], U i6 (K : Int)] W' fun e w' => e = .returned (.tuple #[.agg #[U i6 P1, U i6 P2], U i6 0]) ∧ Below W'.heap.size W' w') (hT : ∀ W', Below W.heap.size W W' → Calls Tryz.prog 30 #[.agg #[U i6 h, U i6 w, U i6 c, U i6 lo, U i6 hi, .slice (some x) on oc, U i6 ot], U i6 op, U i6 ch, .agg #[U i6 slo, U i6 shi]] W' fun e w' => e = .returned (.tuple #[.agg #[U i6 T1, U i6 T2], U i6 0]) ∧ Below W'.heap.size W' w') :
  Calls Tryz.prog 13 #[.agg #[U i6 h, U i6 w, U i6 c, U i6 lo, U i6 hi, .slice (some x) on oc, U i6 ot], U i6 op, U i6 ch, .agg #[U i6 slo, U i6 shi]] W fun e w' => e = .returned (.tuple #[.agg (if 0 < K then #[U i6 16, U i6 (K : Int), U i6 P1, U i6 P2, U i6 T1, U i6 T2] else #[U i6 32, U i6 (N : Int), U i6 R1, U i6 R2, U i6 T1, U i6 T2]), U i6 0]) ∧ Below W.heap.size W w' := by
 have HR : Hid (∀ W', Below W.heap.size W W' → _) := hR
 have HW : Hid (∀ w, _) := fun w => dwit_any (-2147483648) 2147483647 R1 R2 w
 have H6 : Hid (∀ w, _) := fun w => d32_any w
 rw [hn] at HW
 have HL : Hid (∀ W', _) := hLn
 have HM : Hid (∀ W', Below W.heap.size W W' → _) := hM
 have HP : Hid (0 < K → ∀ W', Below W.heap.size W W' → _) := hP
 have HT : Hid (∀ W', Below W.heap.size W W' → _) := hT
 have HC : Hid (∀ (q : Nat) (v : Value), (#[U i6 k, U i6 a, U i6 b, U i6 m, U i6 kh, U i6 kw, U i6 sh, U i6 sw, U i6 tp, U i6 lf, U i6 bt, U i6 rt, .slice wa lw wc, .slice ba lb bc, U i6 sm, U i6 ss, U i6 um, U i6 us, U i6 z, U i6 p, U i6 l0, U i6 h0]).toList[q]? = some v → W.cell? ((x.add (i * 22)).add q) = some v) := hc
 have s0 := (((St.start W).new (c := #[U i6 h, U i6 w, U i6 c, U i6 lo, U i6 hi, .slice (some x) on oc, U i6 ot]) (t := 26)).new (c := #[U i6 slo, U i6 shi]) (t := 28)).new (c := #[U i6 0, U i6 0, U i6 0, U i6 0, U i6 0, U i6 0]) (t := 30)
 simp only [World.size_alloc] at s0
 subst hio
 obtain ⟨RA, hRA⟩ : ∃ RA, (if 0 < K then #[U i6 16, U i6 (K : Int), U i6 P1, U i6 P2, U i6 T1, U i6 T2] else #[U i6 32, U i6 (N : Int), U i6 R1, U i6 R2, U i6 T1, U i6 T2] : Array Value) = RA := ⟨_, rfl⟩
 have HRA : Hid ((if 0 < K then #[U i6 16, U i6 (K : Int), U i6 P1, U i6 P2, U i6 T1, U i6 T2] else #[U i6 32, U i6 (N : Int), U i6 R1, U i6 R2, U i6 T1, U i6 T2] : Array Value) = RA) := hRA
 rw [hRA]
 clear hR hn hLn hM hP hT hc hRA
 go_enter Tryz.func13, Tryz.ntmps13
 go_wp2_with fail
 refine (HR.out _ s0.below).mono ?_
 rintro e w1 ⟨rfl, hb⟩
 have s1 := (s0.call hb).new (c := #[U i6 R1, U i6 R2]) (t := 28)
 have hz1 := (s0.call hb).size
 have hz1' := lt_of_heap (s0.call hb).h1
 obtain ⟨B10, hB10⟩ : ∃ B, w1.heap.size = B := ⟨_, rfl⟩
 rw [hB10] at s1 hz1 hz1'
 clear hb s0 HR
 go_wp2_with fail
 obtain ⟨c1, g1, c2, g2, c3, g3, c4, g4, -⟩ := rulesQ_st s1
 have hne := Nonempty.intro (Wd.mk _ s1)
 refine region_held s1 (by kernel_rfl) (by kernel_rfl) ?_
 repeat (first
  | (go_big_quiet_step ((go_at_call 29; exact held_of (H6.out _))))
  | (go_big_quiet_step ((go_at_call 16; exact held_of (HW.out _)))))
 refine wpQuiet_nil ?_
 intro _ hw'
 obtain ⟨nq, rfl⟩ := hw'
 have s8 := nq.h
 obtain ⟨w8, hw8⟩ : ∃ w, nq.w = w := ⟨_, rfl⟩
 rw [hw8] at s8 ⊢
 clear c1 g1 c2 g2 c3 g3 c4 g4 hne s1 hw8 HW H6
 have S8 : Hid (St W w8 [(B10, #[U i6 R1, U i6 R2], 28), (W.heap.size + 1 + 1, #[U i6 0, U i6 0, U i6 0, U i6 0, U i6 0, U i6 0], 30), (W.heap.size + 1, #[U i6 slo, U i6 shi], 28), (W.heap.size, #[U i6 h, U i6 w, U i6 c, U i6 lo, U i6 hi, .slice (some x) on oc, U i6 ot], 26)]) := s8
 clear s8
 go_upto_region 6 with fail
 have HC8 : Hid (∀ (q : Nat) (v : Value), (#[U i6 k, U i6 a, U i6 b, U i6 m, U i6 kh, U i6 kw, U i6 sh, U i6 sw, U i6 tp, U i6 lf, U i6 bt, U i6 rt, .slice wa lw wc, .slice ba lb bc, U i6 sm, U i6 ss, U i6 um, U i6 us, U i6 z, U i6 p, U i6 l0, U i6 h0]).toList[q]? = some v → w8.cell? ((x.add (i * 22)).add q) = some v) := fun q v hq => (S8.out.below.cell (World.block_lt_of_cell? W _ (HC.out q v hq))).trans (HC.out q v hq)
 have hG := S8.out.h4
 have hG2 := S8.out.h1
 refine regionN (fun w' => Below w8.heap.size w8 w') (fun a0 a' w' => ∃ (B12 : Nat), a' = ((((((((((a0.put (some 32) (.pointer (some ⟨W.heap.size, 5, none⟩))).put (some 33) (.slice (some x) on oc)).put (some 34) (U i6 ((i : Int) + 1))).put (some 35) (U i6 (i : Int))).put (some 36) (.pointer (some (x.add (i * 22))))).put (some 37) (.agg #[U i6 k, U i6 a, U i6 b, U i6 m, U i6 kh, U i6 kw, U i6 sh, U i6 sw, U i6 tp, U i6 lf, U i6 bt, U i6 rt, .slice wa lw wc, .slice ba lb bc, U i6 sm, U i6 ss, U i6 um, U i6 us, U i6 z, U i6 p, U i6 l0, U i6 h0])).put (some 38) (U i6 (N : Int))).put (some 39) (.agg #[U i6 R1, U i6 R2])).put (some 40) (.agg #[U i6 32, U i6 (N : Int), U i6 R1, U i6 R2, U i6 0, U i6 0])).put (some 12) (.pointer (some ⟨B12, 0, none⟩))) ∧ B10 < B12 ∧ St W w' ((B12, #[U i6 32, U i6 (N : Int), U i6 R1, U i6 R2, U i6 0, U i6 0], 30) :: [(B10, #[U i6 R1, U i6 R2], 28), (W.heap.size + 1 + 1, #[U i6 0, U i6 0, U i6 0, U i6 0, U i6 0, U i6 0], 30), (W.heap.size + 1, #[U i6 slo, U i6 shi], 28), (W.heap.size, #[U i6 h, U i6 w, U i6 c, U i6 lo, U i6 hi, .slice (some x) on oc, U i6 ot], 26)])) (by kernel_rfl) ?_ ?_
 ·obtain ⟨wd, hwd⟩ : ∃ wd, w8.drew = wd := ⟨_, rfl⟩
  have HD : Hid (Below w8.heap.size w8 wd) := by unfold Hid; rw [← hwd]; exact (Below.refl _ _).drew
  rw [hwd]
  have SD : Hid (St W wd ([(B10, #[U i6 R1, U i6 R2], 28), (W.heap.size + 1 + 1, #[U i6 0, U i6 0, U i6 0, U i6 0, U i6 0, U i6 0], 30), (W.heap.size + 1, #[U i6 slo, U i6 shi], 28), (W.heap.size, #[U i6 h, U i6 w, U i6 c, U i6 lo, U i6 hi, .slice (some x) on oc, U i6 ot], 26)])) := S8.out.call HD.out
  clear hwd
  refine takeC 0 (v := .pointer (some ⟨W.heap.size, 5, none⟩)) rfl rfl (by kernel_rfl) (by kernel_rfl) (by kernel_rfl) (fun _ _ _ h => h) (fun _ => rfl) rfl (fun w' hw' => by go_simp) ?_
  refine takeC 1 (v := .slice (some x) on oc) rfl rfl (by kernel_rfl) (by kernel_rfl) (by kernel_rfl) (fun _ _ _ h => h) (fun _ => rfl) rfl (fun w' hw' => by have hc := (cells_at ((hw'.block _ (lt_of_heap hG)).trans hG)).1 5; go_simp) ?_
  refine takeC 2 (v := U i6 ((i : Int) + 1)) rfl rfl (by kernel_rfl) (by kernel_rfl) (by kernel_rfl) (fun _ _ _ h => h) (fun _ => rfl) rfl (fun w' hw' => by go_simp) ?_
  refine takeC 3 (v := U i6 (i : Int)) rfl rfl (by kernel_rfl) (by kernel_rfl) (by kernel_rfl) (fun _ _ _ h => h) (fun _ => rfl) rfl (fun w' hw' => by go_simp; rw [IntKind.wrap_i64]; omega) ?_
  refine takeC 4 (v := .pointer (some (x.add (i * 22)))) rfl rfl (by kernel_rfl) (by kernel_rfl) (by kernel_rfl) (fun _ _ _ h => h) (fun _ => rfl) rfl (fun w' hw' => by go_simp) ?_
  refine takeC 5 (v := .agg #[U i6 k, U i6 a, U i6 b, U i6 m, U i6 kh, U i6 kw, U i6 sh, U i6 sw, U i6 tp, U i6 lf, U i6 bt, U i6 rt, .slice wa lw wc, .slice ba lb bc, U i6 sm, U i6 ss, U i6 um, U i6 us, U i6 z, U i6 p, U i6 l0, U i6 h0]) rfl rfl (by kernel_rfl) (by kernel_rfl) (by kernel_rfl) (fun _ _ _ h => h) (fun _ => rfl) rfl (fun w' hw' => run_la 43 (.tmp 36) rfl (x.add (i * 22)) (by kernel_rfl) (#[U i6 k, U i6 a, U i6 b, U i6 m, U i6 kh, U i6 kw, U i6 sh, U i6 sw, U i6 tp, U i6 lf, U i6 bt, U i6 rt, .slice wa lw wc, .slice ba lb bc, U i6 sm, U i6 ss, U i6 um, U i6 us, U i6 z, U i6 p, U i6 l0, U i6 h0]).toList _ (fun q v hq => (hw'.cell (World.block_lt_of_cell? _ _ (HC8.out q v hq))).trans (HC8.out q v hq)) Tryz.underlying43 rfl (by kernel_rfl)) ?_
  refine takeC 7 (v := .agg #[U i6 R1, U i6 R2]) rfl rfl (by kernel_rfl) (by kernel_rfl) (by kernel_rfl) (fun _ _ _ h => h) (fun _ => rfl) rfl (fun w' hw' => run_la 28 (.tmp 10) rfl ⟨B10, 0, none⟩ (by kernel_rfl) [U i6 R1, U i6 R2] _ (fun j v hj => by rw [Addr.add_lit, Nat.zero_add, (cells_at ((hw'.block _ (lt_of_heap hG2)).trans hG2)).1]; simpa using hj) Tryz.underlying28 rfl (by kernel_rfl)) ?_
  refine y2 6 9 HD.out (by kernel_rfl) ?_ ?_
  ·refine yC rfl rfl 26 #[.agg #[U i6 k, U i6 a, U i6 b, U i6 m, U i6 kh, U i6 kw, U i6 sh, U i6 sw, U i6 tp, U i6 lf, U i6 bt, U i6 rt, .slice wa lw wc, .slice ba lb bc, U i6 sm, U i6 ss, U i6 um, U i6 us, U i6 z, U i6 p, U i6 l0, U i6 h0]] (by kernel_rfl) (HL.out _) ?_
   rintro e w9 ⟨rfl, hb9⟩
   refine ⟨_, rfl, ?_⟩
   have hb' : Below w8.heap.size w8 w9 := HD.out.trans (hb9.mono HD.out.size)
   have s9 := SD.out.call hb9
   refine takeC 8 (v := .agg #[U i6 32, U i6 (N : Int), U i6 R1, U i6 R2, U i6 0, U i6 0]) rfl rfl (by kernel_rfl) (by kernel_rfl) (by kernel_rfl) (fun _ _ _ h => h) (fun _ => rfl) rfl (fun w' hw' => by kernel_rfl) ?_
   refine yR 9 hb' (by kernel_rfl) rfl rfl (.pointer (some ⟨w9.heap.size, 0, none⟩)) (w9.alloc (.cells #[U i6 0, U i6 0, U i6 0, U i6 0, U i6 0, U i6 0] 30)) (by kernel_rfl) ?_
   refine yS 10 (hb'.alloc hb'.size _) (by kernel_rfl) rfl rfl 30 (.tmp 12) (.tmp 40) rfl w9.heap.size #[U i6 32, U i6 (N : Int), U i6 R1, U i6 R2, U i6 0, U i6 0] (by kernel_rfl) (by kernel_rfl) 30 #[U i6 0, U i6 0, U i6 0, U i6 0, U i6 0, U i6 0] (heap_alloc_new w9 _) (by kernel_rfl) rfl (by simp [Value.oneCell']) ?_
   rw [World.setRow_alloc_new]
   exact doneM (hb'.alloc hb'.size _) (by kernel_rfl) ⟨w9.heap.size, by kernel_rfl, lt_of_heap s9.h1, s9.new (c := #[U i6 32, U i6 (N : Int), U i6 R1, U i6 R2, U i6 0, U i6 0]) (t := 30)⟩ _
  ·refine yO rfl rfl (.pointer (some ⟨wd.heap.size, 0, none⟩)) (wd.alloc (.cells #[U i6 0, U i6 0, U i6 0, U i6 0, U i6 0, U i6 0] 30)) (by kernel_rfl) ?_
   have hb1 := HD.out.alloc HD.out.size (.cells #[U i6 0, U i6 0, U i6 0, U i6 0, U i6 0, U i6 0] 30)
   have s1 := SD.out.new (c := #[U i6 0, U i6 0, U i6 0, U i6 0, U i6 0, U i6 0]) (t := 30)
   have hz := lt_of_heap SD.out.h1
   refine yK 6 hb1 (by kernel_rfl) rfl rfl 26 #[.agg #[U i6 k, U i6 a, U i6 b, U i6 m, U i6 kh, U i6 kw, U i6 sh, U i6 sw, U i6 tp, U i6 lf, U i6 bt, U i6 rt, .slice wa lw wc, .slice ba lb bc, U i6 sm, U i6 ss, U i6 um, U i6 us, U i6 z, U i6 p, U i6 l0, U i6 h0]] (by kernel_rfl) (HL.out _) ?_
   rintro e w9 ⟨rfl, hb9⟩
   refine ⟨_, rfl, ?_⟩
   have hb' : Below w8.heap.size w8 w9 := hb1.trans (hb9.mono hb1.size)
   have s9 := s1.call hb9
   obtain ⟨B12, hB⟩ : ∃ B, wd.heap.size = B := ⟨_, rfl⟩
   have hz8 : w8.heap.size ≤ B12 := by rw [← hB]; exact HD.out.size
   rw [hB] at s9 hz ⊢
   refine takeC 8 (v := .agg #[U i6 32, U i6 (N : Int), U i6 R1, U i6 R2, U i6 0, U i6 0]) rfl rfl (by kernel_rfl) (by kernel_rfl) (by kernel_rfl) (fun _ _ _ h => h) (fun _ => rfl) rfl (fun w' hw' => by kernel_rfl) ?_
   refine yS 10 hb' (by kernel_rfl) rfl rfl 30 (.tmp 12) (.tmp 40) rfl B12 #[U i6 32, U i6 (N : Int), U i6 R1, U i6 R2, U i6 0, U i6 0] (by kernel_rfl) (by kernel_rfl) 30 #[U i6 0, U i6 0, U i6 0, U i6 0, U i6 0, U i6 0] s9.h1 (by kernel_rfl) rfl (by simp [Value.oneCell']) ?_
   have s10 := s9.rowset (c' := #[U i6 32, U i6 (N : Int), U i6 R1, U i6 R2, U i6 0, U i6 0]) (fun y hy => Nat.ne_of_lt (by rw [← hB]; exact lt_of_heap (SD.out.2 y hy).1))
   exact doneM (below_setRow hb' hz8 #[U i6 32, U i6 (N : Int), U i6 R1, U i6 R2, U i6 0, U i6 0]) (by kernel_rfl) ⟨B12, by kernel_rfl, hz, s10⟩ _
 rintro a' w9 ⟨B12, rfl, hz12, s9⟩
 clear hG hG2 HC8 S8 HL HC
 obtain ⟨c1, f1, z1, c2, f2, z2, c3, f3, z3, c4, f4, z4, c5, f5, z5, -⟩ := s9.rules
 have S9 : Hid (St W w9 _) := s9
 clear s9 c1 f1 z1 c2 f2 z2 c3 f3
 go_wp2_with fail
 refine (HM.out _ S9.out.below).mono ?_
 rintro e w10 ⟨rfl, hb⟩
 have s10 := S9.out.call hb
 clear hb S9 c4 f4 c5 f5 HM
 obtain ⟨c1, f1, z1, c2, f2, z2, c3, f3, z3, c4, f4, z4, c5, f5, z5, -⟩ := s10.rules
 have S10 : Hid (St W w10 _) := s10
 clear s10
 by_cases hK0 : 0 < K
 ·have hKp : (0 : Int) < (K : Int) := by omega
  have HP' : Hid (∀ W', Below W.heap.size W W' → _) := HP.out hK0
  have s11 := (S10.out.set (i := 0) (v := U i6 16) (by simp; omega)).set (i := 1) (v := U i6 (K : Int)) (by simp; omega)
  have HP'' : Hid (∀ W', Below W.heap.size W W' → _) := HP'.out
  clear HP HP' c2 f2 c3 f3
  go_wp2_with fail
  refine (HP''.out _ s11.below).mono ?_
  rintro e w11 ⟨rfl, hb⟩
  have s12 := s11.call hb
  clear hb s11 S10 HP'' c1 f1 z1 z2 z3 c4 f4 z4 c5 f5 z5
  obtain ⟨c1, f1, z1, c2, f2, z2, c3, f3, z3, c4, f4, z4, c5, f5, z5, -⟩ := s12.rules
  have s13 := (s12.set (i := 2) (v := U i6 P1) (by simp; omega)).set (i := 3) (v := U i6 P2) (by simp; omega)
  clear s12 c2 f2 c3 f3
  go_wp2_with fail
  refine (HT.out _ s13.below).mono ?_
  rintro e w12 ⟨rfl, hb⟩
  have s14 := s13.call hb
  clear hb s13 HT c1 f1 z1 z2 z3 c4 f4 z4 c5 f5 z5
  obtain ⟨c1, f1, z1, c2, f2, z2, c3, f3, z3, -⟩ := s14.rules
  have s15 := ((s14.set (i := 4) (v := U i6 T1) (by simp; omega)).set (i := 5) (v := U i6 T2) (by simp; omega)).tail.tail.six (u0 := U i6 16) (u1 := U i6 (K : Int)) (u2 := U i6 P1) (u3 := U i6 P2) (u4 := U i6 T1) (u5 := U i6 T2) (by simp; omega)
  obtain ⟨cF, -⟩ := s15.rules
  have HB : Hid (Below W.heap.size W _) := s15.below
  clear s14 s15 c2 f2
  go_wp2
  exact bodyPost_ret (v := .tuple #[.agg #[U i6 16, U i6 (K : Int), U i6 P1, U i6 P2, U i6 T1, U i6 T2], U i6 0]) (by simp [results, Tryz.results13, go_sem, cF]) rfl ⟨by rw [← HRA.out, if_pos hK0], HB.out⟩
 ·have hKp : ¬ (0 : Int) < (K : Int) := by omega
  clear HP c2 f2 c3 f3
  go_wp2_with fail
  refine (HT.out _ S10.out.below).mono ?_
  rintro e w12 ⟨rfl, hb⟩
  have s14 := S10.out.call hb
  clear hb S10 HT c1 f1 z1 z2 z3 c4 f4 z4 c5 f5 z5
  obtain ⟨c1, f1, z1, c2, f2, z2, c3, f3, z3, -⟩ := s14.rules
  have s15 := ((s14.set (i := 4) (v := U i6 T1) (by simp; omega)).set (i := 5) (v := U i6 T2) (by simp; omega)).tail.tail.six (u0 := U i6 32) (u1 := U i6 (N : Int)) (u2 := U i6 R1) (u3 := U i6 R2) (u4 := U i6 T1) (u5 := U i6 T2) (by simp; omega)
  obtain ⟨cF, -⟩ := s15.rules
  have HB : Hid (Below W.heap.size W _) := s15.below
  clear s14 s15 c2 f2
  go_wp2
  exact bodyPost_ret (v := .tuple #[.agg #[U i6 32, U i6 (N : Int), U i6 R1, U i6 R2, U i6 T1, U i6 T2], U i6 0]) (by simp [results, Tryz.results13, go_sem, cF]) rfl ⟨by rw [← HRA.out, if_neg (by omega)], HB.out⟩
def upW (a : Int) : Int := if 0 < a then a else 0
def dnW (a : Int) : Int := if 0 < a then 0 else a
def upS : List (Int × Int) → Int
 | [] => 0
 | t :: l => upW t.1 + upS l
def dnS : List (Int × Int) → Int
 | [] => 0
 | t :: l => dnW t.1 + dnS l
def szV (x : Int) : Int := if x < 0 then -x else x
def rcS (lo hi : Int) : Int := mxI (szV lo) (szV hi)
def rcV (tp lf bt rt p lo hi : Int) : Int := if 0 < tp + lf + bt + rt then mxI (rcS lo hi) (szV p) else rcS lo hi
theorem piT_head {F : List (Int × Int) → List (Int × Int)} {R : Nat → List (Int × Int)} {N : Nat} (hN : 0 < N) {x : Int × Int} {l : List (Int × Int)} (h : F (R 0) = x :: l) : ∃ m, piT F R N = x :: m := by
 obtain ⟨n, rfl⟩ : ∃ n, N = n + 1 := ⟨N - 1, by omega⟩
 unfold piT
 rw [List.range_succ_eq_map, List.flatMap_cons, h]
 exact ⟨_, rfl⟩
def Inn (x y : Int × Int) : Prop := y.1 ≤ x.1 ∧ x.2 ≤ y.2
theorem Inn.refl (x : Int × Int) : Inn x x := ⟨Int.le_refl _, Int.le_refl _⟩
theorem hul_in {L M : List (Int × Int)} (hL : L ≠ []) (hM : M ≠ []) (h : ∀ x ∈ L, ∃ y ∈ M, Inn x y) : Inn (huA L) (huA M) := by
 obtain ⟨-, ⟨x, hx, ex⟩, ⟨y, hy, ey⟩⟩ := huA_is hL
 obtain ⟨h1, -, -⟩ := huA_is hM
 obtain ⟨u, hu, i1⟩ := h x hx
 obtain ⟨v, hv, i2⟩ := h y hy
 have a1 := h1 u hu
 have a2 := h1 v hv
 unfold Inn at *
 omega
theorem hul_has {L : List (Int × Int)} {x : Int × Int} (hx : x ∈ L) : Inn x (huA L) := by
 have hL : L ≠ [] := fun e => by rw [e] at hx; cases hx
 exact (huA_is hL).1 x hx
theorem piT_ne {F : List (Int × Int) → List (Int × Int)} {R : Nat → List (Int × Int)} {N : Nat} (hN : 0 < N) (h : 0 < (F (R 0)).length) : piT F R N ≠ [] := fun e => by
 cases q : F (R 0) with
 | nil => rw [q] at h; cases h
 | cons x l =>
  obtain ⟨m, hm⟩ := piT_head hN q
  rw [hm] at e; cases e
theorem piT_in {F G : List (Int × Int) → List (Int × Int)} {R R' : Nat → List (Int × Int)} {N : Nat} (h : ∀ k, k < N → ∀ x ∈ F (R k), ∃ y ∈ G (R' k), Inn x y) : ∀ x ∈ piT F R N, ∃ y ∈ piT G R' N, Inn x y := fun x hx => by
 obtain ⟨k, hk, hx'⟩ := mem_piT.1 hx
 obtain ⟨y, hy, hi⟩ := h k hk x hx'
 exact ⟨y, mem_piT.2 ⟨k, hk, hy⟩, hi⟩
theorem suS_mem (s : Int × Int) (E : List (Int × Int)) : suS s E ∈ ruL s E := mem_ruL.2 ⟨E.length, Nat.le_refl _, by rw [List.take_length]⟩
theorem mem_pa1 {E : List (Int × Int)} {x : Int × Int} : x ∈ paL 1 E ++ E ↔ x ∈ E := by
 rw [List.mem_append, mem_paL (by omega)]
 constructor
 ·rintro (⟨i, hi, rfl⟩ | h)
  ·unfold psm
   rw [Nat.div_one, Nat.mul_one, Nat.mod_one, Nat.zero_add]
   rw [List.take_one, List.head?_drop, List.getElem?_eq_getElem hi]
   simp only [Option.toList, suS, List.foldl, plS, Int.zero_add]
   exact List.getElem_mem hi
  ·exact h
 ·exact fun h => .inr h
theorem hbD_one {R : Nat → List (Int × Int)} {N : Nat} (h : piT (fun E => paL 1 E ++ E) R N ≠ []) : hbD 1 R N = hbP R N :=
 huA_eq h fun x => by
  rw [mem_piT, mem_piT]
  constructor
  ·rintro ⟨k, hk, hx⟩; exact ⟨k, hk, mem_pa1.1 hx⟩
  ·rintro ⟨k, hk, hx⟩; exact ⟨k, hk, mem_pa1.2 hx⟩
section
variable {lo hi lo' hi' p : Int} (h1 : lo' ≤ lo) (h2 : lo ≤ hi) (h3 : hi ≤ hi') (TL : List (Int × Int))
include h1 h2 h3
end
theorem sit_N {k kh kw sh sw tp lf bt rt h w c H V C : Int} {lw lb : Nat} (s : Sit k kh kw sh sw tp lf bt rt h w c H V C lw lb) : 0 < (H * V).toNat := by have := (vS_bd s.2.2.1).1; omega
theorem spR_t {slo shi : Int} (h : vbB slo shi = true) (r : Int × Int) : spR slo shi r = (r.1, r.2, 0) := if_pos h
theorem spR_f {slo shi : Int} (h : vbB slo shi = false) (r : Int × Int) : spR slo shi r = (0, 0, 30) := if_neg (by rw [h]; decide)
theorem hb_ne {k kh kw sh sw tp lf bt rt h w c H V C p : Int} {lw lb : Nat} (s : Sit k kh kw sh sw tp lf bt rt h w c H V C lw lb) {zs : List Int} (hz : ∀ v ∈ zs, (Lit.int .i16 v).wf = true) {ch : Int} (hch : 1 ≤ ch ∧ ch ≤ C) {slo shi bi : Int} (hs : -128 ≤ slo ∧ slo ≤ shi ∧ shi ≤ 127) (hp : -128 ≤ p ∧ p ≤ 127) (hbi : -2147483648 ≤ bi ∧ bi ≤ 2147483647) (d : Nat) : piT (fun E => [suS (bi, bi) E]) (fun (j : Nat) => enL slo shi p (siL k kh kw sh sw tp lf bt rt h w c ch (j : Int) zs)) (H * V).toNat ≠ [] ∧ piT (fun E => ruL (bi, bi) E) (fun (j : Nat) => enL slo shi p (siL k kh kw sh sw tp lf bt rt h w c ch (j : Int) zs)) (H * V).toNat ≠ [] ∧ piT (fun E => E) (fun (j : Nat) => enL slo shi p (siL k kh kw sh sw tp lf bt rt h w c ch (j : Int) zs)) (H * V).toNat ≠ [] ∧ piT (fun E => paL d E ++ E) (fun (j : Nat) => enL slo shi p (siL k kh kw sh sw tp lf bt rt h w c ch (j : Int) zs)) (H * V).toNat ≠ [] := by
 have hf := row_facts s hz hch hs hp ((0 : Nat) : Int)
 have hN := sit_N s
 exact ⟨piT_ne hN (by simp), piT_ne hN (by rw [ruL_len]; omega), piT_ne hN hf.2.1, piT_ne hN (by rw [List.length_append]; have := hf.2.1; omega)⟩
theorem hb_in {k kh kw sh sw tp lf bt rt h w c H V C p : Int} {lw lb : Nat} (s : Sit k kh kw sh sw tp lf bt rt h w c H V C lw lb) {zs : List Int} (hz : ∀ v ∈ zs, (Lit.int .i16 v).wf = true) {ch : Int} (hch : 1 ≤ ch ∧ ch ≤ C) {slo shi bi : Int} (hs : -128 ≤ slo ∧ slo ≤ shi ∧ shi ≤ 127) (hp : -128 ≤ p ∧ p ≤ 127) (hbi : -2147483648 ≤ bi ∧ bi ≤ 2147483647) (d : Nat) : Inn (hbT bi (fun (j : Nat) => enL slo shi p (siL k kh kw sh sw tp lf bt rt h w c ch (j : Int) zs)) (H * V).toNat) (hbR bi (fun (j : Nat) => enL slo shi p (siL k kh kw sh sw tp lf bt rt h w c ch (j : Int) zs)) (H * V).toNat) ∧ hbD 1 (fun (j : Nat) => enL slo shi p (siL k kh kw sh sw tp lf bt rt h w c ch (j : Int) zs)) (H * V).toNat = hbP (fun (j : Nat) => enL slo shi p (siL k kh kw sh sw tp lf bt rt h w c ch (j : Int) zs)) (H * V).toNat ∧ Inn (hbP (fun (j : Nat) => enL slo shi p (siL k kh kw sh sw tp lf bt rt h w c ch (j : Int) zs)) (H * V).toNat) (hbD d (fun (j : Nat) => enL slo shi p (siL k kh kw sh sw tp lf bt rt h w c ch (j : Int) zs)) (H * V).toNat) := by
 obtain ⟨n1, n2, n3, n4⟩ := hb_ne s hz hch hs hp hbi d
 refine ⟨hul_in n1 n2 (piT_in fun j _ x hx => ?_), hbD_one (hb_ne s hz hch hs hp hbi 1).2.2.2, hul_in n3 n4 (piT_in fun j _ x hx => ⟨x, List.mem_append_right _ hx, Inn.refl _⟩)⟩
 simp only [List.mem_singleton] at hx
 subst hx
 exact ⟨_, suS_mem _ _, Inn.refl _⟩
def sfD (R : Nat → List (Int × Int)) (M d : Nat) : Bool := w16 (hbD d R M)
theorem w16_in {x y : Int × Int} (h : Inn x y) (g : w16 y = true) : w16 x = true := by
 have := of_decide_eq_true g
 exact decide_eq_true (by unfold Inn at h; omega)
theorem grN_zero (S : Nat → Bool) : ∀ N, (∀ d, 1 ≤ d → d ≤ N → S d = false) → grN S N = 0
 | 0, _ => rfl
 | k + 1, h => by
  unfold grN
  rw [h (k + 1) (by omega) (Nat.le_refl _), if_neg (by decide)]
  exact grN_zero S k fun d h1 h2 => h d h1 (by omega)
theorem most_none {k kh kw sh sw tp lf bt rt h w c H V C p : Int} {lw lb : Nat} (s : Sit k kh kw sh sw tp lf bt rt h w c H V C lw lb) {zs : List Int} (hz : ∀ v ∈ zs, (Lit.int .i16 v).wf = true) {ch : Int} (hch : 1 ≤ ch ∧ ch ≤ C) {slo shi bi : Int} (hs : -128 ≤ slo ∧ slo ≤ shi ∧ shi ≤ 127) (hp : -128 ≤ p ∧ p ≤ 127) (hbi : -2147483648 ≤ bi ∧ bi ≤ 2147483647) (N : Nat) (hn : w16 (hbP (fun (j : Nat) => enL slo shi p (siL k kh kw sh sw tp lf bt rt h w c ch (j : Int) zs)) (H * V).toNat) = false) : grN (sfD (fun (j : Nat) => enL slo shi p (siL k kh kw sh sw tp lf bt rt h w c ch (j : Int) zs)) (H * V).toNat) N = 0 := by
 refine grN_zero _ _ fun d h1 h2 => ?_
 cases q : sfD (fun (j : Nat) => enL slo shi p (siL k kh kw sh sw tp lf bt rt h w c ch (j : Int) zs)) (H * V).toNat d with
 | false => rfl
 | true =>
  have := w16_in (hb_in s hz hch hs hp hbi d).2.2 q
  rw [hn] at this; cases this
def chP (bi : Int) (R : Nat → List (Int × Int)) (M N : Nat) : List Int :=
 if 0 < grN (sfD R M) N then [16, (grN (sfD R M) N : Nat), (hbD (grN (sfD R M) N) R M).1, (hbD (grN (sfD R M) N) R M).2, (hbT bi R M).1, (hbT bi R M).2]
 else [32, (N : Int), (hbR bi R M).1, (hbR bi R M).2, (hbT bi R M).1, (hbT bi R M).2]
open Go.ChangeShapes Go.WideShapes Go.ChangeAt Go.RowKit Go.Shelf
theorem spD_t {slo shi dp : Int} {N : Nat} (h : vbB slo shi = true) (g : 1 ≤ dp ∧ dp ≤ (N : Int)) (r : Int × Int) : spD slo shi dp N r = (r.1, r.2, 0) := by unfold spD; rw [if_pos h, if_pos g]
theorem spD_d {slo shi dp : Int} {N : Nat} (h : vbB slo shi = true) (g : ¬ (1 ≤ dp ∧ dp ≤ (N : Int))) (r : Int × Int) : spD slo shi dp N r = (0, 0, 151) := by unfold spD; rw [if_pos h, if_neg g]
theorem spD_f {slo shi dp : Int} {N : Nat} (h : vbB slo shi = false) (r : Int × Int) : spD slo shi dp N r = (0, 0, 30) := by unfold spD; rw [if_neg (by rw [h]; decide)]
theorem dsaf_bad (h w c lo hi ot op ch : Int) (oa : Option Addr) (on oc : Nat) (W : World) (slo shi dp E : Int) (hE : E ≠ 0) (hO : (∀ W', Below W.heap.size W W' → Calls Tryz.prog 51 #[.agg #[U i6 h, U i6 w, U i6 c, U i6 lo, U i6 hi, .slice oa on oc, U i6 ot], U i6 op, U i6 ch, U i6 0] W' fun e w' => e = .returned (.tuple #[.slice none 0 0, U i6 0, U i6 E]) ∧ Below W'.heap.size W' w')) :
  Calls Tryz.prog 6 #[.agg #[U i6 h, U i6 w, U i6 c, U i6 lo, U i6 hi, .slice oa on oc, U i6 ot], U i6 op, U i6 ch, .agg #[U i6 slo, U i6 shi], U i6 dp] W fun e w' => e = .returned (.tuple #[.bool false, U i6 E]) ∧ Below W.heap.size W w' := by
 have := dsaf_w h w c lo hi ot op ch oa on oc W slo shi dp 0 0 E (fun W' hb => bprt_bad h w c lo hi ot op ch oa on oc W' slo shi dp E hE (fun W'' hb' => hO W'' (hb.trans (hb'.mono hb.size))))
 rw [saB_e hE] at this
 exact this
def saR (slo shi dp : Int) (N : Nat) (r : Int × Int) : Bool × Int := (saB (spD slo shi dp N r).1 (spD slo shi dp N r).2.1 (spD slo shi dp N r).2.2, (spD slo shi dp N r).2.2)
theorem saR_t {slo shi dp : Int} {N : Nat} (h : vbB slo shi = true) (g : 1 ≤ dp ∧ dp ≤ (N : Int)) (r : Int × Int) : saR slo shi dp N r = (w16 r, 0) := by unfold saR; rw [spD_t h g]; exact Prod.ext (saB_0 _ _) rfl
theorem saR_d {slo shi dp : Int} {N : Nat} (h : vbB slo shi = true) (g : ¬ (1 ≤ dp ∧ dp ≤ (N : Int))) (r : Int × Int) : saR slo shi dp N r = (false, 151) := by unfold saR; rw [spD_d h g]; rfl
theorem saR_f {slo shi dp : Int} {N : Nat} (h : vbB slo shi = false) (r : Int × Int) : saR slo shi dp N r = (false, 30) := by unfold saR; rw [spD_f h]; rfl
theorem dsaf_ok (h w c lo hi ot : Int) (oa : Option Addr) (on oc : Nat) (O : Nat → Nat → Int) (Z B : Nat → List Int) (W : World) (hL : LRow W oa on oc O Z B) (ch : Int) (RL : List (Int × Int × Int)) (Rw : Int) (hR : gtR O h w c lo hi ot on = (0, 0, RL, Rw)) (i : Nat) (x : Addr) (wa : Option Addr) (lw cw : Nat) (ba : Option Addr) (lb cb : Nat) (x0 y0 z0 H V C : Int) (hF : Fnd W oa on O Z B RL i x wa lw cw ba lb cb x0 y0 z0 H V C) (hch : 1 ≤ ch ∧ ch ≤ C) (slo shi dp : Int) (N : Nat) (hN : (siL (O i 0) (O i 4) (O i 5) (O i 6) (O i 7) (O i 8) (O i 9) (O i 10) (O i 11) x0 y0 z0 ch 0 (Z i)).length = N) :
  Calls Tryz.prog 6 #[.agg #[U i6 h, U i6 w, U i6 c, U i6 lo, U i6 hi, .slice oa on oc, U i6 ot], U i6 ((i : Int) + 1), U i6 ch, .agg #[U i6 slo, U i6 shi], U i6 dp] W fun e w' => e = .returned (.tuple #[.bool (saR slo shi dp N (hbD dp.toNat (fun (j : Nat) => enL slo shi (O i 19) (siL (O i 0) (O i 4) (O i 5) (O i 6) (O i 7) (O i 8) (O i 9) (O i 10) (O i 11) x0 y0 z0 ch (j : Int) (Z i))) (H * V).toNat)).1, U i6 (saR slo shi dp N (hbD dp.toNat (fun (j : Nat) => enL slo shi (O i 19) (siL (O i 0) (O i 4) (O i 5) (O i 6) (O i 7) (O i 8) (O i 9) (O i 10) (O i 11) x0 y0 z0 ch (j : Int) (Z i))) (H * V).toNat)).2]) ∧ Below W.heap.size W w' :=
 dsaf_w h w c lo hi ot ((i : Int) + 1) ch oa on oc W slo shi dp _ _ _ (fun W' hb => bprt_ok h w c lo hi ot oa on oc O Z B W' (hL.below hb) ch RL Rw hR i x wa lw cw ba lb cb x0 y0 z0 H V C (hF.below hb) hch slo shi dp N hN)
theorem op_len {h w c lo hi ot ch : Int} {oa : Option Addr} {on : Nat} {O : Nat → Nat → Int} {Z B : Nat → List Int} {W : World} (RL : List (Int × Int × Int)) (Rw : Int) (hR : gtR O h w c lo hi ot on = (0, 0, RL, Rw)) (i : Nat) (x : Addr) (wa : Option Addr) (lw cw : Nat) (ba : Option Addr) (lb cb : Nat) (x0 y0 z0 H V C : Int) (hF : Fnd W oa on O Z B RL i x wa lw cw ba lb cb x0 y0 z0 H V C) (hch : 1 ≤ ch ∧ ch ≤ C) (N : Nat) (hN : (siL (O i 0) (O i 4) (O i 5) (O i 6) (O i 7) (O i 8) (O i 9) (O i 10) (O i 11) x0 y0 z0 ch 0 (Z i)).length = N) : stR (O i 0) (O i 4) (O i 5) x0 y0 z0 = (N : Int) ∧ 0 < N ∧ N ≤ 512 := by
 have hs := hF.2.2.2.2.2.2.2.2.2.1
 have h1 : (siL (O i 0) (O i 4) (O i 5) (O i 6) (O i 7) (O i 8) (O i 9) (O i 10) (O i 11) x0 y0 z0 ch 0 (Z i)).length = (stR (O i 0) (O i 4) (O i 5) x0 y0 z0).toNat := by unfold siL; rw [tmL_len]
 have := hs.2.2.2.2.2.2.2.2
 omega
theorem dlen_ok {h w c lo hi ot ch : Int} {oa : Option Addr} {on : Nat} {O : Nat → Nat → Int} {Z B : Nat → List Int} {W : World} (RL : List (Int × Int × Int)) (Rw : Int) (hR : gtR O h w c lo hi ot on = (0, 0, RL, Rw)) (i : Nat) (x : Addr) (wa : Option Addr) (lw cw : Nat) (ba : Option Addr) (lb cb : Nat) (x0 y0 z0 H V C : Int) (hF : Fnd W oa on O Z B RL i x wa lw cw ba lb cb x0 y0 z0 H V C) (hch : 1 ≤ ch ∧ ch ≤ C) (N : Nat) (hN : (siL (O i 0) (O i 4) (O i 5) (O i 6) (O i 7) (O i 8) (O i 9) (O i 10) (O i 11) x0 y0 z0 ch 0 (Z i)).length = N) (W' : World) :
  Calls Tryz.prog 26 #[.agg #[U i6 (O i 0), U i6 (O i 1), U i6 (O i 2), U i6 (O i 3), U i6 (O i 4), U i6 (O i 5), U i6 (O i 6), U i6 (O i 7), U i6 (O i 8), U i6 (O i 9), U i6 (O i 10), U i6 (O i 11), .slice wa lw cw, .slice ba lb cb, U i6 (O i 14), U i6 (O i 15), U i6 (O i 16), U i6 (O i 17), U i6 (O i 18), U i6 (O i 19), U i6 (O i 20), U i6 (O i 21)]] W' fun e w' => e = .returned (U i6 (N : Int)) ∧ Below W'.heap.size W' w' := by
 obtain ⟨e1, e2, e3⟩ := op_len RL Rw hR i x wa lw cw ba lb cb x0 y0 z0 H V C hF hch N hN
 obtain ⟨k1, -, k3, -, -, k6, k7, -, -⟩ := hF.2.2.2.2.2.2.2.2.2.1
 have hv := vS_bd k3
 refine dlen_w (O i 0) (O i 1) (O i 2) (O i 3) (O i 4) (O i 5) (O i 6) (O i 7) (O i 8) (O i 9) (O i 10) (O i 11) wa lw cw ba lb cb (O i 14) (O i 15) (O i 16) (O i 17) (O i 18) (O i 19) (O i 20) (O i 21) N W' (fun q => ?_) (fun q => ?_) e3
 ·obtain ⟨r1, r2⟩ := k6 (by omega)
  refine ⟨r1, r2, ?_⟩
  rw [← e1]; unfold stR; rw [if_neg (by omega), if_neg (by omega), if_pos (by omega)]
 ·obtain ⟨r1, r2⟩ := k7 (by omega)
  rw [e1] at r1
  refine ⟨?_, by rw [r1, r2]⟩
  have : 1 ≤ C := by omega
  omega
theorem dmos_bad (h w c lo hi ot op ch : Int) (oa : Option Addr) (on oc : Nat) (W : World) (slo shi E : Int) (hE : E ≠ 0) (hO : (∀ W', Below W.heap.size W W' → Calls Tryz.prog 51 #[.agg #[U i6 h, U i6 w, U i6 c, U i6 lo, U i6 hi, .slice oa on oc, U i6 ot], U i6 op, U i6 ch, U i6 0] W' fun e w' => e = .returned (.tuple #[.slice none 0 0, U i6 0, U i6 E]) ∧ Below W'.heap.size W' w')) : Calls Tryz.prog 11 #[.agg #[U i6 h, U i6 w, U i6 c, U i6 lo, U i6 hi, .slice oa on oc, U i6 ot], U i6 op, U i6 ch, .agg #[U i6 slo, U i6 shi]] W fun e w' => e = .returned (.tuple #[U i6 0, U i6 E]) ∧ Below W.heap.size W w' :=
 dmos_e h w c lo hi ot op ch oa on oc W slo shi 0 0 E hE (fun W' hb => bprd_bad h w c lo hi ot op ch oa on oc W' slo shi E hE (fun W'' hb' => hO W'' (hb.trans (hb'.mono hb.size))))
def moR (slo shi : Int) (n : Nat) : Int × Int := if vbB slo shi = true then ((n : Int), 0) else (0, 30)
theorem moR_t {slo shi : Int} (h : vbB slo shi = true) (n : Nat) : moR slo shi n = ((n : Int), 0) := if_pos h
theorem moR_f {slo shi : Int} (h : vbB slo shi = false) (n : Nat) : moR slo shi n = (0, 30) := if_neg (by rw [h]; decide)
theorem dmos_ok (h w c lo hi ot : Int) (oa : Option Addr) (on oc : Nat) (O : Nat → Nat → Int) (Z B : Nat → List Int) (W : World) (hL : LRow W oa on oc O Z B) (ch : Int) (RL : List (Int × Int × Int)) (Rw : Int) (hR : gtR O h w c lo hi ot on = (0, 0, RL, Rw)) (i : Nat) (x : Addr) (wa : Option Addr) (lw cw : Nat) (ba : Option Addr) (lb cb : Nat) (x0 y0 z0 H V C : Int) (hF : Fnd W oa on O Z B RL i x wa lw cw ba lb cb x0 y0 z0 H V C) (hch : 1 ≤ ch ∧ ch ≤ C) (slo shi : Int) (N : Nat) (hN : (siL (O i 0) (O i 4) (O i 5) (O i 6) (O i 7) (O i 8) (O i 9) (O i 10) (O i 11) x0 y0 z0 ch 0 (Z i)).length = N) :
  Calls Tryz.prog 11 #[.agg #[U i6 h, U i6 w, U i6 c, U i6 lo, U i6 hi, .slice oa on oc, U i6 ot], U i6 ((i : Int) + 1), U i6 ch, .agg #[U i6 slo, U i6 shi]] W fun e w' => e = .returned (.tuple #[U i6 (moR slo shi (grN (sfD (fun (j : Nat) => enL slo shi (O i 19) (siL (O i 0) (O i 4) (O i 5) (O i 6) (O i 7) (O i 8) (O i 9) (O i 10) (O i 11) x0 y0 z0 ch (j : Int) (Z i))) (H * V).toNat) N)).1, U i6 (moR slo shi (grN (sfD (fun (j : Nat) => enL slo shi (O i 19) (siL (O i 0) (O i 4) (O i 5) (O i 6) (O i 7) (O i 8) (O i 9) (O i 10) (O i 11) x0 y0 z0 ch (j : Int) (Z i))) (H * V).toNat) N)).2]) ∧ Below W.heap.size W w' := by
 have hP : ∀ W', Below W.heap.size W W' → _ := fun W' hb => bprd_ok h w c lo hi ot oa on oc O Z B W' (hL.below hb) ch RL Rw hR i x wa lw cw ba lb cb x0 y0 z0 H V C (hF.below hb) hch slo shi
 cases hs : vbB slo shi with
 | false =>
  rw [moR_f hs]
  rw [spR_f hs] at hP
  exact dmos_e h w c lo hi ot ((i : Int) + 1) ch oa on oc W slo shi 0 0 30 (by decide) hP
 | true =>
  rw [moR_t hs]
  rw [spR_t hs] at hP
  obtain ⟨hopd, hk4, -, -, hbf2, hbi, -⟩ := bfacts hL RL Rw hR i x wa lw cw ba lb cb x0 y0 z0 H V C hF hch
  have hz := hF.2.2.2.2.2.1.2.2.2.1
  have hv := vbB_yes hs
  have hbf := hopd.si hk4
  obtain ⟨e1, e2, e3⟩ := op_len RL Rw hR i x wa lw cw ba lb cb x0 y0 z0 H V C hF hch N hN
  cases hn : w16 (hbP (fun (j : Nat) => enL slo shi (O i 19) (siL (O i 0) (O i 4) (O i 5) (O i 6) (O i 7) (O i 8) (O i 9) (O i 10) (O i 11) x0 y0 z0 ch (j : Int) (Z i))) (H * V).toNat) with
  | false =>
   rw [most_none hbf hz hch hv hbf2 hbi N hn]
   exact dmos_n h w c lo hi ot ((i : Int) + 1) ch oa on oc W slo shi _ _ 0 rfl hP hn
  | true =>
   obtain rfl : oa = some x := hF.2.1
   refine dmos_y h w c lo hi ot ((i : Int) + 1) ch x on oc W slo shi _ _ hP hn i hF.1 rfl (by have := hL.1; have := hL.2.1; have := (gtR_ok hR).2.2.1; omega) (O i 0) (O i 1) (O i 2) (O i 3) (O i 4) (O i 5) (O i 6) (O i 7) (O i 8) (O i 9) (O i 10) (O i 11) wa lw cw ba lb cb (O i 14) (O i 15) (O i 16) (O i 17) (O i 18) (O i 19) (O i 20) (O i 21) hF.2.2.2.2.1 N e3 (sfD (fun (j : Nat) => enL slo shi (O i 19) (siL (O i 0) (O i 4) (O i 5) (O i 6) (O i 7) (O i 8) (O i 9) (O i 10) (O i 11) x0 y0 z0 ch (j : Int) (Z i))) (H * V).toNat) (fun W' => dlen_ok RL Rw hR i x wa lw cw ba lb cb x0 y0 z0 H V C hF hch N hN W') (fun W' d hb h1 h2 => ?_)
   have := dsaf_ok h w c lo hi ot (some x) on oc O Z B W' (hL.below hb) ch RL Rw hR i x wa lw cw ba lb cb x0 y0 z0 H V C (hF.below hb) hch slo shi d N hN
   rw [saR_t hs ⟨by omega, by omega⟩, Int.toNat_natCast] at this
   exact this
theorem dcho_bad (h w c lo hi ot op ch : Int) (oa : Option Addr) (on oc : Nat) (W : World) (slo shi E : Int) (hE : E ≠ 0) (hO : (∀ W', Below W.heap.size W W' → Calls Tryz.prog 51 #[.agg #[U i6 h, U i6 w, U i6 c, U i6 lo, U i6 hi, .slice oa on oc, U i6 ot], U i6 op, U i6 ch, U i6 0] W' fun e w' => e = .returned (.tuple #[.slice none 0 0, U i6 0, U i6 E]) ∧ Below W'.heap.size W' w')) : Calls Tryz.prog 13 #[.agg #[U i6 h, U i6 w, U i6 c, U i6 lo, U i6 hi, .slice oa on oc, U i6 ot], U i6 op, U i6 ch, .agg #[U i6 slo, U i6 shi]] W fun e w' => e = .returned (.tuple #[.agg #[U i6 0, U i6 0, U i6 0, U i6 0, U i6 0, U i6 0], U i6 E]) ∧ Below W.heap.size W w' :=
 dcho_e h w c lo hi ot op ch oa on oc W slo shi 0 0 E hE (fun W' hb => brun_bad h w c lo hi ot op ch oa on oc W' slo shi E hE (fun W'' hb' => hO W'' (hb.trans (hb'.mono hb.size))))
def chC (K N : Nat) (R P T : Int × Int) : Array Value := if 0 < K then #[U i6 16, U i6 (K : Int), U i6 P.1, U i6 P.2, U i6 T.1, U i6 T.2] else #[U i6 32, U i6 (N : Int), U i6 R.1, U i6 R.2, U i6 T.1, U i6 T.2]
theorem dcho_30 (h w c lo hi ot : Int) (oa : Option Addr) (on oc : Nat) (O : Nat → Nat → Int) (Z B : Nat → List Int) (W : World) (hL : LRow W oa on oc O Z B) (ch : Int) (RL : List (Int × Int × Int)) (Rw : Int) (hR : gtR O h w c lo hi ot on = (0, 0, RL, Rw)) (i : Nat) (x : Addr) (wa : Option Addr) (lw cw : Nat) (ba : Option Addr) (lb cb : Nat) (x0 y0 z0 H V C : Int) (hF : Fnd W oa on O Z B RL i x wa lw cw ba lb cb x0 y0 z0 H V C) (hch : 1 ≤ ch ∧ ch ≤ C) (slo shi : Int) (hs : vbB slo shi = false) :
  Calls Tryz.prog 13 #[.agg #[U i6 h, U i6 w, U i6 c, U i6 lo, U i6 hi, .slice oa on oc, U i6 ot], U i6 ((i : Int) + 1), U i6 ch, .agg #[U i6 slo, U i6 shi]] W fun e w' => e = .returned (.tuple #[.agg #[U i6 0, U i6 0, U i6 0, U i6 0, U i6 0, U i6 0], U i6 30]) ∧ Below W.heap.size W w' := by
 have hP : ∀ W', Below W.heap.size W W' → _ := fun W' hb => brun_ok h w c lo hi ot oa on oc O Z B W' (hL.below hb) ch RL Rw hR i x wa lw cw ba lb cb x0 y0 z0 H V C (hF.below hb) hch slo shi
 rw [spR_f hs] at hP
 exact dcho_e h w c lo hi ot ((i : Int) + 1) ch oa on oc W slo shi 0 0 30 (by decide) hP
theorem dcho_154 (h w c lo hi ot : Int) (oa : Option Addr) (on oc : Nat) (O : Nat → Nat → Int) (Z B : Nat → List Int) (W : World) (hL : LRow W oa on oc O Z B) (ch : Int) (RL : List (Int × Int × Int)) (Rw : Int) (hR : gtR O h w c lo hi ot on = (0, 0, RL, Rw)) (i : Nat) (x : Addr) (wa : Option Addr) (lw cw : Nat) (ba : Option Addr) (lb cb : Nat) (x0 y0 z0 H V C : Int) (hF : Fnd W oa on O Z B RL i x wa lw cw ba lb cb x0 y0 z0 H V C) (hch : 1 ≤ ch ∧ ch ≤ C) (slo shi : Int) (hs : vbB slo shi = true) (hn : w32 (hbR (biA (O i 0) ch (B i)) (fun (j : Nat) => enL slo shi (O i 19) (siL (O i 0) (O i 4) (O i 5) (O i 6) (O i 7) (O i 8) (O i 9) (O i 10) (O i 11) x0 y0 z0 ch (j : Int) (Z i))) (H * V).toNat) = false) :
  Calls Tryz.prog 13 #[.agg #[U i6 h, U i6 w, U i6 c, U i6 lo, U i6 hi, .slice oa on oc, U i6 ot], U i6 ((i : Int) + 1), U i6 ch, .agg #[U i6 slo, U i6 shi]] W fun e w' => e = .returned (.tuple #[.agg #[U i6 0, U i6 0, U i6 0, U i6 0, U i6 0, U i6 0], U i6 154]) ∧ Below W.heap.size W w' := by
 have hP : ∀ W', Below W.heap.size W W' → _ := fun W' hb => brun_ok h w c lo hi ot oa on oc O Z B W' (hL.below hb) ch RL Rw hR i x wa lw cw ba lb cb x0 y0 z0 H V C (hF.below hb) hch slo shi
 rw [spR_t hs] at hP
 exact dcho_n h w c lo hi ot ((i : Int) + 1) ch oa on oc W slo shi _ _ 0 rfl hP hn
theorem dcho_ok (h w c lo hi ot : Int) (oa : Option Addr) (on oc : Nat) (O : Nat → Nat → Int) (Z B : Nat → List Int) (W : World) (hL : LRow W oa on oc O Z B) (ch : Int) (RL : List (Int × Int × Int)) (Rw : Int) (hR : gtR O h w c lo hi ot on = (0, 0, RL, Rw)) (i : Nat) (x : Addr) (wa : Option Addr) (lw cw : Nat) (ba : Option Addr) (lb cb : Nat) (x0 y0 z0 H V C : Int) (hF : Fnd W oa on O Z B RL i x wa lw cw ba lb cb x0 y0 z0 H V C) (hch : 1 ≤ ch ∧ ch ≤ C) (slo shi : Int) (N : Nat) (hN : (siL (O i 0) (O i 4) (O i 5) (O i 6) (O i 7) (O i 8) (O i 9) (O i 10) (O i 11) x0 y0 z0 ch 0 (Z i)).length = N) (hs : vbB slo shi = true) (hn : w32 (hbR (biA (O i 0) ch (B i)) (fun (j : Nat) => enL slo shi (O i 19) (siL (O i 0) (O i 4) (O i 5) (O i 6) (O i 7) (O i 8) (O i 9) (O i 10) (O i 11) x0 y0 z0 ch (j : Int) (Z i))) (H * V).toNat) = true) :
  Calls Tryz.prog 13 #[.agg #[U i6 h, U i6 w, U i6 c, U i6 lo, U i6 hi, .slice oa on oc, U i6 ot], U i6 ((i : Int) + 1), U i6 ch, .agg #[U i6 slo, U i6 shi]] W fun e w' => e = .returned (.tuple #[.agg (chC (grN (sfD (fun (j : Nat) => enL slo shi (O i 19) (siL (O i 0) (O i 4) (O i 5) (O i 6) (O i 7) (O i 8) (O i 9) (O i 10) (O i 11) x0 y0 z0 ch (j : Int) (Z i))) (H * V).toNat) N) N (hbR (biA (O i 0) ch (B i)) (fun (j : Nat) => enL slo shi (O i 19) (siL (O i 0) (O i 4) (O i 5) (O i 6) (O i 7) (O i 8) (O i 9) (O i 10) (O i 11) x0 y0 z0 ch (j : Int) (Z i))) (H * V).toNat) (hbD (grN (sfD (fun (j : Nat) => enL slo shi (O i 19) (siL (O i 0) (O i 4) (O i 5) (O i 6) (O i 7) (O i 8) (O i 9) (O i 10) (O i 11) x0 y0 z0 ch (j : Int) (Z i))) (H * V).toNat) N) (fun (j : Nat) => enL slo shi (O i 19) (siL (O i 0) (O i 4) (O i 5) (O i 6) (O i 7) (O i 8) (O i 9) (O i 10) (O i 11) x0 y0 z0 ch (j : Int) (Z i))) (H * V).toNat) (hbT (biA (O i 0) ch (B i)) (fun (j : Nat) => enL slo shi (O i 19) (siL (O i 0) (O i 4) (O i 5) (O i 6) (O i 7) (O i 8) (O i 9) (O i 10) (O i 11) x0 y0 z0 ch (j : Int) (Z i))) (H * V).toNat)), U i6 0]) ∧ Below W.heap.size W w' := by
 have hP : ∀ W', Below W.heap.size W W' → _ := fun W' hb => brun_ok h w c lo hi ot oa on oc O Z B W' (hL.below hb) ch RL Rw hR i x wa lw cw ba lb cb x0 y0 z0 H V C (hF.below hb) hch slo shi
 rw [spR_t hs] at hP
 have hT : ∀ W', Below W.heap.size W W' → _ := fun W' hb => btot_ok h w c lo hi ot oa on oc O Z B W' (hL.below hb) ch RL Rw hR i x wa lw cw ba lb cb x0 y0 z0 H V C (hF.below hb) hch slo shi
 rw [spR_t hs] at hT
 have hM : ∀ W', Below W.heap.size W W' → _ := fun W' hb => dmos_ok h w c lo hi ot oa on oc O Z B W' (hL.below hb) ch RL Rw hR i x wa lw cw ba lb cb x0 y0 z0 H V C (hF.below hb) hch slo shi N hN
 rw [moR_t hs] at hM
 obtain ⟨e1, e2, e3⟩ := op_len RL Rw hR i x wa lw cw ba lb cb x0 y0 z0 H V C hF hch N hN
 have hKN := grN_le (sfD (fun (j : Nat) => enL slo shi (O i 19) (siL (O i 0) (O i 4) (O i 5) (O i 6) (O i 7) (O i 8) (O i 9) (O i 10) (O i 11) x0 y0 z0 ch (j : Int) (Z i))) (H * V).toNat) N
 obtain rfl : oa = some x := hF.2.1
 refine dcho_y h w c lo hi ot ((i : Int) + 1) ch x on oc W slo shi _ _ _ _ _ _ hP hn i hF.1 rfl (by have := hL.1; have := hL.2.1; have := (gtR_ok hR).2.2.1; omega) (O i 0) (O i 1) (O i 2) (O i 3) (O i 4) (O i 5) (O i 6) (O i 7) (O i 8) (O i 9) (O i 10) (O i 11) wa lw cw ba lb cb (O i 14) (O i 15) (O i 16) (O i 17) (O i 18) (O i 19) (O i 20) (O i 21) hF.2.2.2.2.1 N (grN (sfD (fun (j : Nat) => enL slo shi (O i 19) (siL (O i 0) (O i 4) (O i 5) (O i 6) (O i 7) (O i 8) (O i 9) (O i 10) (O i 11) x0 y0 z0 ch (j : Int) (Z i))) (H * V).toNat) N) e3 (by omega) (fun W' => dlen_ok RL Rw hR i x wa lw cw ba lb cb x0 y0 z0 H V C hF hch N hN W') hM (fun hK W' hb => ?_) hT
 have := bprt_ok h w c lo hi ot (some x) on oc O Z B W' (hL.below hb) ch RL Rw hR i x wa lw cw ba lb cb x0 y0 z0 H V C (hF.below hb) hch slo shi ((grN (sfD (fun (j : Nat) => enL slo shi (O i 19) (siL (O i 0) (O i 4) (O i 5) (O i 6) (O i 7) (O i 8) (O i 9) (O i 10) (O i 11) x0 y0 z0 ch (j : Int) (Z i))) (H * V).toNat) N) : Nat) N hN
 rw [spD_t hs ⟨by omega, by omega⟩, Int.toNat_natCast] at this
 exact this
end Go.Proofs.YtgiohlcipndakaaGreat
