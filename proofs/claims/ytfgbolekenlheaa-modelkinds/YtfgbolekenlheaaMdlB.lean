/- Are the fields that a kind doesn't use 0? The program's answer and the document's. -/
import Derived.Test.YtfgbolekenlheaaMdlA
import Derived.Deep.DeepCutAuto
namespace Go.Proofs.Ytfgbolekenlheaa
open Go.ChangeShapes Go.WideShapes Go.ChangeAt Go.RowKit
theorem rulesQ_st {w0 w : World} {b : List (Nat × Array Value × TypeId)} (_ : St w0 w b) : RulesQ w0 b b := rulesQ w0 b
/-- A region of a function, by its number. -/
def rgn (i : Nat) : Code → Option (Array Oper)
  | .region id ops _ => if id = i then some ops else none
  | .seq a b => match rgn i a with
    | some o => some o
    | none => rgn i b
  | .cond _ a b => match rgn i a with
    | some o => some o
    | none => rgn i b
  | .block _ b => rgn i b
  | .loop b => rgn i b
  | .scope b => rgn i b
  | .rangeFunc _ _ _ b => rgn i b
  | _ => none
theorem ozLex : Region.lexB .any ((Try.f51.body.bind (rgn 2)).getD #[]) = true := by kernel_rfl
theorem lex_of {a b : Array Oper} (h : Region.lexB .any b = true) (e : a = b) : Region.lexB .any a = true := by rw [e]; exact h
/-! ### Structs compared -/
theorem eq2 (T : TypeId) (hT : T = 52) (a b c d : Int) (v : Bool) (h : decide (a = c ∧ b = d) = v) : ∀ W, (binOp .eql T (.agg #[.int .i64 a, .int .i64 b]) (.agg #[.int .i64 c, .int .i64 d])).run Try.prog W = .ok (.bool v) W := by
  intro W; subst h hT; simp [go_sem]; split <;> simp_all <;> split <;> simp_all
theorem ne2 (T : TypeId) (hT : T = 52) (a b c d : Int) (v : Bool) (h : decide (a = c ∧ b = d) = v) : ∀ W, (binOp .neq T (.agg #[.int .i64 a, .int .i64 b]) (.agg #[.int .i64 c, .int .i64 d])).run Try.prog W = .ok (.bool (!v)) W := by
  intro W; subst h hT; simp [go_sem]; split <;> simp_all <;> split <;> simp_all
theorem eq8 (T : TypeId) (hT : T = 48) (a1 a2 a3 a4 a5 a6 a7 a8 b1 b2 b3 b4 b5 b6 b7 b8 : Int) (v : Bool) (h : decide (a1 = b1 ∧ a2 = b2 ∧ a3 = b3 ∧ a4 = b4 ∧ a5 = b5 ∧ a6 = b6 ∧ a7 = b7 ∧ a8 = b8) = v) : ∀ W, (binOp .eql T (.agg #[.int .i64 a1, .int .i64 a2, .int .i64 a3, .int .i64 a4, .int .i64 a5, .int .i64 a6, .int .i64 a7, .int .i64 a8]) (.agg #[.int .i64 b1, .int .i64 b2, .int .i64 b3, .int .i64 b4, .int .i64 b5, .int .i64 b6, .int .i64 b7, .int .i64 b8])).run Try.prog W = .ok (.bool v) W := by
  intro W; subst h hT; simp [go_sem]; repeat' split
  all_goals simp_all
theorem ne8 (T : TypeId) (hT : T = 48) (a1 a2 a3 a4 a5 a6 a7 a8 b1 b2 b3 b4 b5 b6 b7 b8 : Int) (v : Bool) (h : decide (a1 = b1 ∧ a2 = b2 ∧ a3 = b3 ∧ a4 = b4 ∧ a5 = b5 ∧ a6 = b6 ∧ a7 = b7 ∧ a8 = b8) = v) : ∀ W, (binOp .neq T (.agg #[.int .i64 a1, .int .i64 a2, .int .i64 a3, .int .i64 a4, .int .i64 a5, .int .i64 a6, .int .i64 a7, .int .i64 a8]) (.agg #[.int .i64 b1, .int .i64 b2, .int .i64 b3, .int .i64 b4, .int .i64 b5, .int .i64 b6, .int .i64 b7, .int .i64 b8])).run Try.prog W = .ok (.bool (!v)) W := by
  intro W; subst h hT; simp [go_sem]; repeat' split
  all_goals simp_all
/-- The fields that the kind doesn't use are 0. -/
def ozB (k b m kh kw sh sw tp lf bt rt : Int) (lw lb : Nat) (sm ss um us z p : Int) : Bool := decide (
  (k ≠ 6 → b = 0 ∧ um = 0 ∧ us = 0) ∧ (2 < k → m = 0) ∧ (3 < k → lw = 0 ∧ lb = 0) ∧ (k = 4 ∨ k = 5 ∨ k = 8 → sm = 0 ∧ ss = 0 ∧ z = 0) ∧
  (k = 1 ∨ 5 < k → kh = 0 ∧ kw = 0 ∧ sh = 0 ∧ sw = 0 ∧ tp = 0 ∧ lf = 0 ∧ bt = 0 ∧ rt = 0) ∧ (k ≠ 2 → k ≠ 3 → p = 0) ∧ (k = 4 ∨ k = 5 → tp = 0 ∧ lf = 0 ∧ bt = 0 ∧ rt = 0))
set_option maxHeartbeats 4000000 in
theorem oz_1_0 (a b m kh kw sh sw tp lf bt rt sm ss um us z p lo hi : Int) (wa : Option Addr) (lw lb wc : Nat) (ba : Option Addr) (bc : Nat) (W : World) (hn : ¬ (b = 0)) :
    Calls Try.prog 51 #[.agg #[.int .i64 1, .int .i64 a, .int .i64 b, .int .i64 m, .int .i64 kh, .int .i64 kw, .int .i64 sh, .int .i64 sw, .int .i64 tp, .int .i64 lf, .int .i64 bt, .int .i64 rt, .slice wa lw wc, .slice ba lb bc, .int .i64 sm, .int .i64 ss, .int .i64 um, .int .i64 us, .int .i64 z, .int .i64 p, .int .i64 lo, .int .i64 hi]] W fun e w' => e = .returned (.bool false) ∧ Below W.heap.size W w' := by
  have q1 : (b == 0) = false := by simp; omega
  go_enter Try.func51, Try.ntmps51
  go_wp2_with fail
  refine (uses_1 _).mono ?_
  rintro e w1 ⟨rfl, hb'⟩
  have s1 := (St.start W).new.call hb'
  clear hb'
  try simp only [World.size_setCell] at s1
  try simp only [World.size_alloc] at s1
  obtain ⟨c1, f1, zw1_1, -⟩ := s1.rules
  go_upto_region 2 with fail
  have s2 := s1.new (c := #[.bool false, .bool true, .bool false, .bool false, .bool true, .bool true, .bool false, .bool true, .bool false]) (t := 91)
  clear c1 f1
  obtain ⟨c1, g1, c2, g2, -⟩ := rulesQ_st s2
  have hne := Nonempty.intro (Wd.mk _ s2)
  refine region_held s2 (by kernel_rfl) (lex_of ozLex (by kernel_rfl)) ?_
  simp only [List.append]
  repeat (go_big_quiet_step ((go_at_call 55; exact held_of (nopad_any _ _ _ _ _ _ _ _ _))))
  refine wpQuiet_nil ?_
  intro _ hw'
  obtain ⟨nq, rfl⟩ := hw'
  go_wp2
  go_ret
  exact ⟨rfl, nq.h.below⟩
set_option maxHeartbeats 4000000 in
theorem oz_1_1 (a m kh kw sh sw tp lf bt rt sm ss um us z p lo hi : Int) (wa : Option Addr) (lw lb wc : Nat) (ba : Option Addr) (bc : Nat) (W : World) (hn : ¬ (kh = 0 ∧ kw = 0 ∧ sh = 0 ∧ sw = 0 ∧ tp = 0 ∧ lf = 0 ∧ bt = 0 ∧ rt = 0)) :
    Calls Try.prog 51 #[.agg #[.int .i64 1, .int .i64 a, .int .i64 0, .int .i64 m, .int .i64 kh, .int .i64 kw, .int .i64 sh, .int .i64 sw, .int .i64 tp, .int .i64 lf, .int .i64 bt, .int .i64 rt, .slice wa lw wc, .slice ba lb bc, .int .i64 sm, .int .i64 ss, .int .i64 um, .int .i64 us, .int .i64 z, .int .i64 p, .int .i64 lo, .int .i64 hi]] W fun e w' => e = .returned (.bool false) ∧ Below W.heap.size W w' := by
  have q1 := eq8 48 rfl kh kw sh sw tp lf bt rt 0 0 0 0 0 0 0 0 false (decide_eq_false (by omega))
  clear hn
  go_enter Try.func51, Try.ntmps51
  go_wp2_with fail
  refine (uses_1 _).mono ?_
  rintro e w1 ⟨rfl, hb'⟩
  have s1 := (St.start W).new.call hb'
  clear hb'
  try simp only [World.size_setCell] at s1
  try simp only [World.size_alloc] at s1
  obtain ⟨c1, f1, zw1_1, -⟩ := s1.rules
  go_upto_region 2 with fail
  have s2 := s1.new (c := #[.bool false, .bool true, .bool false, .bool false, .bool true, .bool true, .bool false, .bool true, .bool false]) (t := 91)
  clear c1 f1
  obtain ⟨c1, g1, c2, g2, -⟩ := rulesQ_st s2
  have hne := Nonempty.intro (Wd.mk _ s2)
  refine region_held s2 (by kernel_rfl) (lex_of ozLex (by kernel_rfl)) ?_
  simp only [List.append]
  repeat (go_big_quiet_step ((go_at_call 55; exact held_of (nopad_any _ _ _ _ _ _ _ _ _))))
  refine wpQuiet_nil ?_
  intro _ hw'
  obtain ⟨nq, rfl⟩ := hw'
  go_wp2
  go_ret
  exact ⟨rfl, nq.h.below⟩
set_option maxHeartbeats 4000000 in
theorem oz_1_2 (a m sm ss um us z p lo hi : Int) (wa : Option Addr) (lw lb wc : Nat) (ba : Option Addr) (bc : Nat) (W : World) (hn : ¬ (um = 0 ∧ us = 0)) :
    Calls Try.prog 51 #[.agg #[.int .i64 1, .int .i64 a, .int .i64 0, .int .i64 m, .int .i64 0, .int .i64 0, .int .i64 0, .int .i64 0, .int .i64 0, .int .i64 0, .int .i64 0, .int .i64 0, .slice wa lw wc, .slice ba lb bc, .int .i64 sm, .int .i64 ss, .int .i64 um, .int .i64 us, .int .i64 z, .int .i64 p, .int .i64 lo, .int .i64 hi]] W fun e w' => e = .returned (.bool false) ∧ Below W.heap.size W w' := by
  have q1 := eq2 52 rfl um us 0 0 false (decide_eq_false (by omega))
  clear hn
  go_enter Try.func51, Try.ntmps51
  go_wp2_with fail
  refine (uses_1 _).mono ?_
  rintro e w1 ⟨rfl, hb'⟩
  have s1 := (St.start W).new.call hb'
  clear hb'
  try simp only [World.size_setCell] at s1
  try simp only [World.size_alloc] at s1
  obtain ⟨c1, f1, zw1_1, -⟩ := s1.rules
  go_upto_region 2 with fail
  have s2 := s1.new (c := #[.bool false, .bool true, .bool false, .bool false, .bool true, .bool true, .bool false, .bool true, .bool false]) (t := 91)
  clear c1 f1
  obtain ⟨c1, g1, c2, g2, -⟩ := rulesQ_st s2
  have hne := Nonempty.intro (Wd.mk _ s2)
  refine region_held s2 (by kernel_rfl) (lex_of ozLex (by kernel_rfl)) ?_
  simp only [List.append]
  repeat (go_big_quiet_step ((go_at_call 55; exact held_of (nopad_any _ _ _ _ _ _ _ _ _))))
  refine wpQuiet_nil ?_
  intro _ hw'
  obtain ⟨nq, rfl⟩ := hw'
  go_wp2
  go_ret
  exact ⟨rfl, nq.h.below⟩
set_option maxHeartbeats 4000000 in
theorem oz_1_3 (a m sm ss z p lo hi : Int) (wa : Option Addr) (lw lb wc : Nat) (ba : Option Addr) (bc : Nat) (W : World) (hn : ¬ (p = 0)) :
    Calls Try.prog 51 #[.agg #[.int .i64 1, .int .i64 a, .int .i64 0, .int .i64 m, .int .i64 0, .int .i64 0, .int .i64 0, .int .i64 0, .int .i64 0, .int .i64 0, .int .i64 0, .int .i64 0, .slice wa lw wc, .slice ba lb bc, .int .i64 sm, .int .i64 ss, .int .i64 0, .int .i64 0, .int .i64 z, .int .i64 p, .int .i64 lo, .int .i64 hi]] W fun e w' => e = .returned (.bool false) ∧ Below W.heap.size W w' := by
  have q1 : (p == 0) = false := by simp; omega
  go_enter Try.func51, Try.ntmps51
  go_wp2_with fail
  refine (uses_1 _).mono ?_
  rintro e w1 ⟨rfl, hb'⟩
  have s1 := (St.start W).new.call hb'
  clear hb'
  try simp only [World.size_setCell] at s1
  try simp only [World.size_alloc] at s1
  obtain ⟨c1, f1, zw1_1, -⟩ := s1.rules
  go_upto_region 2 with fail
  have s2 := s1.new (c := #[.bool false, .bool true, .bool false, .bool false, .bool true, .bool true, .bool false, .bool true, .bool false]) (t := 91)
  clear c1 f1
  obtain ⟨c1, g1, c2, g2, -⟩ := rulesQ_st s2
  have hne := Nonempty.intro (Wd.mk _ s2)
  refine region_held s2 (by kernel_rfl) (lex_of ozLex (by kernel_rfl)) ?_
  simp only [List.append]
  repeat (go_big_quiet_step ((go_at_call 55; exact held_of (nopad_any _ _ _ _ _ _ _ _ _))))
  refine wpQuiet_nil ?_
  intro _ hw'
  obtain ⟨nq, rfl⟩ := hw'
  go_wp2
  go_ret
  exact ⟨rfl, nq.h.below⟩
set_option maxHeartbeats 4000000 in
theorem oz_1_4 (a m sm ss z lo hi : Int) (wa : Option Addr) (lw lb wc : Nat) (ba : Option Addr) (bc : Nat) (W : World)  :
    Calls Try.prog 51 #[.agg #[.int .i64 1, .int .i64 a, .int .i64 0, .int .i64 m, .int .i64 0, .int .i64 0, .int .i64 0, .int .i64 0, .int .i64 0, .int .i64 0, .int .i64 0, .int .i64 0, .slice wa lw wc, .slice ba lb bc, .int .i64 sm, .int .i64 ss, .int .i64 0, .int .i64 0, .int .i64 z, .int .i64 0, .int .i64 lo, .int .i64 hi]] W fun e w' => e = .returned (.bool true) ∧ Below W.heap.size W w' := by
  go_enter Try.func51, Try.ntmps51
  go_wp2_with fail
  refine (uses_1 _).mono ?_
  rintro e w1 ⟨rfl, hb'⟩
  have s1 := (St.start W).new.call hb'
  clear hb'
  try simp only [World.size_setCell] at s1
  try simp only [World.size_alloc] at s1
  obtain ⟨c1, f1, zw1_1, -⟩ := s1.rules
  go_upto_region 2 with fail
  have s2 := s1.new (c := #[.bool false, .bool true, .bool false, .bool false, .bool true, .bool true, .bool false, .bool true, .bool false]) (t := 91)
  clear c1 f1
  obtain ⟨c1, g1, c2, g2, -⟩ := rulesQ_st s2
  have hne := Nonempty.intro (Wd.mk _ s2)
  refine region_held s2 (by kernel_rfl) (lex_of ozLex (by kernel_rfl)) ?_
  simp only [List.append]
  repeat (go_big_quiet_step ((go_at_call 55; exact held_of (nopad_any _ _ _ _ _ _ _ _ _))))
  refine wpQuiet_nil ?_
  intro _ hw'
  obtain ⟨nq, rfl⟩ := hw'
  go_wp2
  go_ret
  exact ⟨rfl, nq.h.below⟩
set_option maxHeartbeats 4000000 in
theorem oz_2_0 (a b m kh kw sh sw tp lf bt rt sm ss um us z p lo hi : Int) (wa : Option Addr) (lw lb wc : Nat) (ba : Option Addr) (bc : Nat) (W : World) (hn : ¬ (b = 0)) :
    Calls Try.prog 51 #[.agg #[.int .i64 2, .int .i64 a, .int .i64 b, .int .i64 m, .int .i64 kh, .int .i64 kw, .int .i64 sh, .int .i64 sw, .int .i64 tp, .int .i64 lf, .int .i64 bt, .int .i64 rt, .slice wa lw wc, .slice ba lb bc, .int .i64 sm, .int .i64 ss, .int .i64 um, .int .i64 us, .int .i64 z, .int .i64 p, .int .i64 lo, .int .i64 hi]] W fun e w' => e = .returned (.bool false) ∧ Below W.heap.size W w' := by
  have q1 : (b == 0) = false := by simp; omega
  go_enter Try.func51, Try.ntmps51
  go_wp2_with fail
  refine (uses_2 _).mono ?_
  rintro e w1 ⟨rfl, hb'⟩
  have s1 := (St.start W).new.call hb'
  clear hb'
  try simp only [World.size_setCell] at s1
  try simp only [World.size_alloc] at s1
  obtain ⟨c1, f1, zw1_1, -⟩ := s1.rules
  go_upto_region 2 with fail
  have s2 := s1.new (c := #[.bool false, .bool true, .bool true, .bool true, .bool true, .bool true, .bool false, .bool true, .bool true]) (t := 91)
  clear c1 f1
  obtain ⟨c1, g1, c2, g2, -⟩ := rulesQ_st s2
  have hne := Nonempty.intro (Wd.mk _ s2)
  refine region_held s2 (by kernel_rfl) (lex_of ozLex (by kernel_rfl)) ?_
  simp only [List.append]
  repeat (go_big_quiet_step ((go_at_call 55; exact held_of (nopad_any _ _ _ _ _ _ _ _ _))))
  refine wpQuiet_nil ?_
  intro _ hw'
  obtain ⟨nq, rfl⟩ := hw'
  go_wp2
  go_ret
  exact ⟨rfl, nq.h.below⟩
set_option maxHeartbeats 4000000 in
theorem oz_2_1 (a m kh kw sh sw tp lf bt rt sm ss um us z p lo hi : Int) (wa : Option Addr) (lw lb wc : Nat) (ba : Option Addr) (bc : Nat) (W : World) (hn : ¬ (um = 0 ∧ us = 0)) :
    Calls Try.prog 51 #[.agg #[.int .i64 2, .int .i64 a, .int .i64 0, .int .i64 m, .int .i64 kh, .int .i64 kw, .int .i64 sh, .int .i64 sw, .int .i64 tp, .int .i64 lf, .int .i64 bt, .int .i64 rt, .slice wa lw wc, .slice ba lb bc, .int .i64 sm, .int .i64 ss, .int .i64 um, .int .i64 us, .int .i64 z, .int .i64 p, .int .i64 lo, .int .i64 hi]] W fun e w' => e = .returned (.bool false) ∧ Below W.heap.size W w' := by
  have q1 := eq2 52 rfl um us 0 0 false (decide_eq_false (by omega))
  clear hn
  go_enter Try.func51, Try.ntmps51
  go_wp2_with fail
  refine (uses_2 _).mono ?_
  rintro e w1 ⟨rfl, hb'⟩
  have s1 := (St.start W).new.call hb'
  clear hb'
  try simp only [World.size_setCell] at s1
  try simp only [World.size_alloc] at s1
  obtain ⟨c1, f1, zw1_1, -⟩ := s1.rules
  go_upto_region 2 with fail
  have s2 := s1.new (c := #[.bool false, .bool true, .bool true, .bool true, .bool true, .bool true, .bool false, .bool true, .bool true]) (t := 91)
  clear c1 f1
  obtain ⟨c1, g1, c2, g2, -⟩ := rulesQ_st s2
  have hne := Nonempty.intro (Wd.mk _ s2)
  refine region_held s2 (by kernel_rfl) (lex_of ozLex (by kernel_rfl)) ?_
  simp only [List.append]
  repeat (go_big_quiet_step ((go_at_call 55; exact held_of (nopad_any _ _ _ _ _ _ _ _ _))))
  refine wpQuiet_nil ?_
  intro _ hw'
  obtain ⟨nq, rfl⟩ := hw'
  go_wp2
  go_ret
  exact ⟨rfl, nq.h.below⟩
set_option maxHeartbeats 4000000 in
theorem oz_2_2 (a m kh kw sh sw tp lf bt rt sm ss z p lo hi : Int) (wa : Option Addr) (lw lb wc : Nat) (ba : Option Addr) (bc : Nat) (W : World)  :
    Calls Try.prog 51 #[.agg #[.int .i64 2, .int .i64 a, .int .i64 0, .int .i64 m, .int .i64 kh, .int .i64 kw, .int .i64 sh, .int .i64 sw, .int .i64 tp, .int .i64 lf, .int .i64 bt, .int .i64 rt, .slice wa lw wc, .slice ba lb bc, .int .i64 sm, .int .i64 ss, .int .i64 0, .int .i64 0, .int .i64 z, .int .i64 p, .int .i64 lo, .int .i64 hi]] W fun e w' => e = .returned (.bool true) ∧ Below W.heap.size W w' := by
  go_enter Try.func51, Try.ntmps51
  go_wp2_with fail
  refine (uses_2 _).mono ?_
  rintro e w1 ⟨rfl, hb'⟩
  have s1 := (St.start W).new.call hb'
  clear hb'
  try simp only [World.size_setCell] at s1
  try simp only [World.size_alloc] at s1
  obtain ⟨c1, f1, zw1_1, -⟩ := s1.rules
  go_upto_region 2 with fail
  have s2 := s1.new (c := #[.bool false, .bool true, .bool true, .bool true, .bool true, .bool true, .bool false, .bool true, .bool true]) (t := 91)
  clear c1 f1
  obtain ⟨c1, g1, c2, g2, -⟩ := rulesQ_st s2
  have hne := Nonempty.intro (Wd.mk _ s2)
  refine region_held s2 (by kernel_rfl) (lex_of ozLex (by kernel_rfl)) ?_
  simp only [List.append]
  repeat (go_big_quiet_step ((go_at_call 55; exact held_of (nopad_any _ _ _ _ _ _ _ _ _))))
  refine wpQuiet_nil ?_
  intro _ hw'
  obtain ⟨nq, rfl⟩ := hw'
  go_wp2
  go_ret
  exact ⟨rfl, nq.h.below⟩
set_option maxHeartbeats 4000000 in
theorem oz_3_0 (a b m kh kw sh sw tp lf bt rt sm ss um us z p lo hi : Int) (wa : Option Addr) (lw lb wc : Nat) (ba : Option Addr) (bc : Nat) (W : World) (hn : ¬ (b = 0)) :
    Calls Try.prog 51 #[.agg #[.int .i64 3, .int .i64 a, .int .i64 b, .int .i64 m, .int .i64 kh, .int .i64 kw, .int .i64 sh, .int .i64 sw, .int .i64 tp, .int .i64 lf, .int .i64 bt, .int .i64 rt, .slice wa lw wc, .slice ba lb bc, .int .i64 sm, .int .i64 ss, .int .i64 um, .int .i64 us, .int .i64 z, .int .i64 p, .int .i64 lo, .int .i64 hi]] W fun e w' => e = .returned (.bool false) ∧ Below W.heap.size W w' := by
  have q1 : (b == 0) = false := by simp; omega
  go_enter Try.func51, Try.ntmps51
  go_wp2_with fail
  refine (uses_3 _).mono ?_
  rintro e w1 ⟨rfl, hb'⟩
  have s1 := (St.start W).new.call hb'
  clear hb'
  try simp only [World.size_setCell] at s1
  try simp only [World.size_alloc] at s1
  obtain ⟨c1, f1, zw1_1, -⟩ := s1.rules
  go_upto_region 2 with fail
  have s2 := s1.new (c := #[.bool false, .bool false, .bool true, .bool true, .bool true, .bool true, .bool false, .bool true, .bool true]) (t := 91)
  clear c1 f1
  obtain ⟨c1, g1, c2, g2, -⟩ := rulesQ_st s2
  have hne := Nonempty.intro (Wd.mk _ s2)
  refine region_held s2 (by kernel_rfl) (lex_of ozLex (by kernel_rfl)) ?_
  simp only [List.append]
  repeat (go_big_quiet_step ((go_at_call 55; exact held_of (nopad_any _ _ _ _ _ _ _ _ _))))
  refine wpQuiet_nil ?_
  intro _ hw'
  obtain ⟨nq, rfl⟩ := hw'
  go_wp2
  go_ret
  exact ⟨rfl, nq.h.below⟩
set_option maxHeartbeats 4000000 in
theorem oz_3_1 (a m kh kw sh sw tp lf bt rt sm ss um us z p lo hi : Int) (wa : Option Addr) (lw lb wc : Nat) (ba : Option Addr) (bc : Nat) (W : World) (hn : ¬ (m = 0)) :
    Calls Try.prog 51 #[.agg #[.int .i64 3, .int .i64 a, .int .i64 0, .int .i64 m, .int .i64 kh, .int .i64 kw, .int .i64 sh, .int .i64 sw, .int .i64 tp, .int .i64 lf, .int .i64 bt, .int .i64 rt, .slice wa lw wc, .slice ba lb bc, .int .i64 sm, .int .i64 ss, .int .i64 um, .int .i64 us, .int .i64 z, .int .i64 p, .int .i64 lo, .int .i64 hi]] W fun e w' => e = .returned (.bool false) ∧ Below W.heap.size W w' := by
  have q1 : (m == 0) = false := by simp; omega
  go_enter Try.func51, Try.ntmps51
  go_wp2_with fail
  refine (uses_3 _).mono ?_
  rintro e w1 ⟨rfl, hb'⟩
  have s1 := (St.start W).new.call hb'
  clear hb'
  try simp only [World.size_setCell] at s1
  try simp only [World.size_alloc] at s1
  obtain ⟨c1, f1, zw1_1, -⟩ := s1.rules
  go_upto_region 2 with fail
  have s2 := s1.new (c := #[.bool false, .bool false, .bool true, .bool true, .bool true, .bool true, .bool false, .bool true, .bool true]) (t := 91)
  clear c1 f1
  obtain ⟨c1, g1, c2, g2, -⟩ := rulesQ_st s2
  have hne := Nonempty.intro (Wd.mk _ s2)
  refine region_held s2 (by kernel_rfl) (lex_of ozLex (by kernel_rfl)) ?_
  simp only [List.append]
  repeat (go_big_quiet_step ((go_at_call 55; exact held_of (nopad_any _ _ _ _ _ _ _ _ _))))
  refine wpQuiet_nil ?_
  intro _ hw'
  obtain ⟨nq, rfl⟩ := hw'
  go_wp2
  go_ret
  exact ⟨rfl, nq.h.below⟩
set_option maxHeartbeats 4000000 in
theorem oz_3_2 (a kh kw sh sw tp lf bt rt sm ss um us z p lo hi : Int) (wa : Option Addr) (lw lb wc : Nat) (ba : Option Addr) (bc : Nat) (W : World) (hn : ¬ (um = 0 ∧ us = 0)) :
    Calls Try.prog 51 #[.agg #[.int .i64 3, .int .i64 a, .int .i64 0, .int .i64 0, .int .i64 kh, .int .i64 kw, .int .i64 sh, .int .i64 sw, .int .i64 tp, .int .i64 lf, .int .i64 bt, .int .i64 rt, .slice wa lw wc, .slice ba lb bc, .int .i64 sm, .int .i64 ss, .int .i64 um, .int .i64 us, .int .i64 z, .int .i64 p, .int .i64 lo, .int .i64 hi]] W fun e w' => e = .returned (.bool false) ∧ Below W.heap.size W w' := by
  have q1 := eq2 52 rfl um us 0 0 false (decide_eq_false (by omega))
  clear hn
  go_enter Try.func51, Try.ntmps51
  go_wp2_with fail
  refine (uses_3 _).mono ?_
  rintro e w1 ⟨rfl, hb'⟩
  have s1 := (St.start W).new.call hb'
  clear hb'
  try simp only [World.size_setCell] at s1
  try simp only [World.size_alloc] at s1
  obtain ⟨c1, f1, zw1_1, -⟩ := s1.rules
  go_upto_region 2 with fail
  have s2 := s1.new (c := #[.bool false, .bool false, .bool true, .bool true, .bool true, .bool true, .bool false, .bool true, .bool true]) (t := 91)
  clear c1 f1
  obtain ⟨c1, g1, c2, g2, -⟩ := rulesQ_st s2
  have hne := Nonempty.intro (Wd.mk _ s2)
  refine region_held s2 (by kernel_rfl) (lex_of ozLex (by kernel_rfl)) ?_
  simp only [List.append]
  repeat (go_big_quiet_step ((go_at_call 55; exact held_of (nopad_any _ _ _ _ _ _ _ _ _))))
  refine wpQuiet_nil ?_
  intro _ hw'
  obtain ⟨nq, rfl⟩ := hw'
  go_wp2
  go_ret
  exact ⟨rfl, nq.h.below⟩
set_option maxHeartbeats 4000000 in
theorem oz_3_3 (a kh kw sh sw tp lf bt rt sm ss z p lo hi : Int) (wa : Option Addr) (lw lb wc : Nat) (ba : Option Addr) (bc : Nat) (W : World)  :
    Calls Try.prog 51 #[.agg #[.int .i64 3, .int .i64 a, .int .i64 0, .int .i64 0, .int .i64 kh, .int .i64 kw, .int .i64 sh, .int .i64 sw, .int .i64 tp, .int .i64 lf, .int .i64 bt, .int .i64 rt, .slice wa lw wc, .slice ba lb bc, .int .i64 sm, .int .i64 ss, .int .i64 0, .int .i64 0, .int .i64 z, .int .i64 p, .int .i64 lo, .int .i64 hi]] W fun e w' => e = .returned (.bool true) ∧ Below W.heap.size W w' := by
  go_enter Try.func51, Try.ntmps51
  go_wp2_with fail
  refine (uses_3 _).mono ?_
  rintro e w1 ⟨rfl, hb'⟩
  have s1 := (St.start W).new.call hb'
  clear hb'
  try simp only [World.size_setCell] at s1
  try simp only [World.size_alloc] at s1
  obtain ⟨c1, f1, zw1_1, -⟩ := s1.rules
  go_upto_region 2 with fail
  have s2 := s1.new (c := #[.bool false, .bool false, .bool true, .bool true, .bool true, .bool true, .bool false, .bool true, .bool true]) (t := 91)
  clear c1 f1
  obtain ⟨c1, g1, c2, g2, -⟩ := rulesQ_st s2
  have hne := Nonempty.intro (Wd.mk _ s2)
  refine region_held s2 (by kernel_rfl) (lex_of ozLex (by kernel_rfl)) ?_
  simp only [List.append]
  repeat (go_big_quiet_step ((go_at_call 55; exact held_of (nopad_any _ _ _ _ _ _ _ _ _))))
  refine wpQuiet_nil ?_
  intro _ hw'
  obtain ⟨nq, rfl⟩ := hw'
  go_wp2
  go_ret
  exact ⟨rfl, nq.h.below⟩
set_option maxHeartbeats 4000000 in
theorem oz_4_0 (a b m kh kw sh sw tp lf bt rt sm ss um us z p lo hi : Int) (wa : Option Addr) (lw lb wc : Nat) (ba : Option Addr) (bc : Nat) (W : World) (hn : ¬ (b = 0)) :
    Calls Try.prog 51 #[.agg #[.int .i64 4, .int .i64 a, .int .i64 b, .int .i64 m, .int .i64 kh, .int .i64 kw, .int .i64 sh, .int .i64 sw, .int .i64 tp, .int .i64 lf, .int .i64 bt, .int .i64 rt, .slice wa lw wc, .slice ba lb bc, .int .i64 sm, .int .i64 ss, .int .i64 um, .int .i64 us, .int .i64 z, .int .i64 p, .int .i64 lo, .int .i64 hi]] W fun e w' => e = .returned (.bool false) ∧ Below W.heap.size W w' := by
  have q1 : (b == 0) = false := by simp; omega
  go_enter Try.func51, Try.ntmps51
  go_wp2_with fail
  refine (uses_4 _).mono ?_
  rintro e w1 ⟨rfl, hb'⟩
  have s1 := (St.start W).new.call hb'
  clear hb'
  try simp only [World.size_setCell] at s1
  try simp only [World.size_alloc] at s1
  obtain ⟨c1, f1, zw1_1, -⟩ := s1.rules
  go_upto_region 2 with fail
  have s2 := s1.new (c := #[.bool false, .bool false, .bool true, .bool false, .bool false, .bool false, .bool false, .bool false, .bool false]) (t := 91)
  clear c1 f1
  obtain ⟨c1, g1, c2, g2, -⟩ := rulesQ_st s2
  have hne := Nonempty.intro (Wd.mk _ s2)
  refine region_held s2 (by kernel_rfl) (lex_of ozLex (by kernel_rfl)) ?_
  simp only [List.append]
  repeat (go_big_quiet_step ((go_at_call 55; exact held_of (nopad_any _ _ _ _ _ _ _ _ _))))
  refine wpQuiet_nil ?_
  intro _ hw'
  obtain ⟨nq, rfl⟩ := hw'
  go_wp2
  go_ret
  exact ⟨rfl, nq.h.below⟩
set_option maxHeartbeats 4000000 in
theorem oz_4_1 (a m kh kw sh sw tp lf bt rt sm ss um us z p lo hi : Int) (wa : Option Addr) (lw lb wc : Nat) (ba : Option Addr) (bc : Nat) (W : World) (hn : ¬ (m = 0)) :
    Calls Try.prog 51 #[.agg #[.int .i64 4, .int .i64 a, .int .i64 0, .int .i64 m, .int .i64 kh, .int .i64 kw, .int .i64 sh, .int .i64 sw, .int .i64 tp, .int .i64 lf, .int .i64 bt, .int .i64 rt, .slice wa lw wc, .slice ba lb bc, .int .i64 sm, .int .i64 ss, .int .i64 um, .int .i64 us, .int .i64 z, .int .i64 p, .int .i64 lo, .int .i64 hi]] W fun e w' => e = .returned (.bool false) ∧ Below W.heap.size W w' := by
  have q1 : (m == 0) = false := by simp; omega
  go_enter Try.func51, Try.ntmps51
  go_wp2_with fail
  refine (uses_4 _).mono ?_
  rintro e w1 ⟨rfl, hb'⟩
  have s1 := (St.start W).new.call hb'
  clear hb'
  try simp only [World.size_setCell] at s1
  try simp only [World.size_alloc] at s1
  obtain ⟨c1, f1, zw1_1, -⟩ := s1.rules
  go_upto_region 2 with fail
  have s2 := s1.new (c := #[.bool false, .bool false, .bool true, .bool false, .bool false, .bool false, .bool false, .bool false, .bool false]) (t := 91)
  clear c1 f1
  obtain ⟨c1, g1, c2, g2, -⟩ := rulesQ_st s2
  have hne := Nonempty.intro (Wd.mk _ s2)
  refine region_held s2 (by kernel_rfl) (lex_of ozLex (by kernel_rfl)) ?_
  simp only [List.append]
  repeat (go_big_quiet_step ((go_at_call 55; exact held_of (nopad_any _ _ _ _ _ _ _ _ _))))
  refine wpQuiet_nil ?_
  intro _ hw'
  obtain ⟨nq, rfl⟩ := hw'
  go_wp2
  go_ret
  exact ⟨rfl, nq.h.below⟩
set_option maxHeartbeats 4000000 in
theorem oz_4_2 (a kh kw sh sw tp lf bt rt sm ss um us z p lo hi : Int) (wa : Option Addr) (lw lb wc : Nat) (ba : Option Addr) (bc : Nat) (W : World) (hn : ¬ (tp = 0 ∧ lf = 0 ∧ bt = 0 ∧ rt = 0)) :
    Calls Try.prog 51 #[.agg #[.int .i64 4, .int .i64 a, .int .i64 0, .int .i64 0, .int .i64 kh, .int .i64 kw, .int .i64 sh, .int .i64 sw, .int .i64 tp, .int .i64 lf, .int .i64 bt, .int .i64 rt, .slice wa lw wc, .slice ba lb bc, .int .i64 sm, .int .i64 ss, .int .i64 um, .int .i64 us, .int .i64 z, .int .i64 p, .int .i64 lo, .int .i64 hi]] W fun e w' => e = .returned (.bool false) ∧ Below W.heap.size W w' := by
  have q1 := eq8 48 rfl kh kw sh sw tp lf bt rt kh kw sh sw 0 0 0 0 false (decide_eq_false (by omega))
  clear hn
  go_enter Try.func51, Try.ntmps51
  go_wp2_with fail
  refine (uses_4 _).mono ?_
  rintro e w1 ⟨rfl, hb'⟩
  have s1 := (St.start W).new.call hb'
  clear hb'
  try simp only [World.size_setCell] at s1
  try simp only [World.size_alloc] at s1
  obtain ⟨c1, f1, zw1_1, -⟩ := s1.rules
  go_upto_region 2 with fail
  have s2 := s1.new (c := #[.bool false, .bool false, .bool true, .bool false, .bool false, .bool false, .bool false, .bool false, .bool false]) (t := 91)
  clear c1 f1
  obtain ⟨c1, g1, c2, g2, -⟩ := rulesQ_st s2
  have hne := Nonempty.intro (Wd.mk _ s2)
  refine region_held s2 (by kernel_rfl) (lex_of ozLex (by kernel_rfl)) ?_
  simp only [List.append]
  repeat (go_big_quiet_step ((go_at_call 55; exact held_of (nopad_any _ _ _ _ _ _ _ _ _))))
  refine wpQuiet_nil ?_
  intro _ hw'
  obtain ⟨nq, rfl⟩ := hw'
  go_wp2
  go_ret
  exact ⟨rfl, nq.h.below⟩
set_option maxHeartbeats 4000000 in
theorem oz_4_3 (a kh kw sh sw sm ss um us z p lo hi : Int) (wa : Option Addr) (lw lb wc : Nat) (ba : Option Addr) (bc : Nat) (W : World) (hn : ¬ (lw = 0)) :
    Calls Try.prog 51 #[.agg #[.int .i64 4, .int .i64 a, .int .i64 0, .int .i64 0, .int .i64 kh, .int .i64 kw, .int .i64 sh, .int .i64 sw, .int .i64 0, .int .i64 0, .int .i64 0, .int .i64 0, .slice wa lw wc, .slice ba lb bc, .int .i64 sm, .int .i64 ss, .int .i64 um, .int .i64 us, .int .i64 z, .int .i64 p, .int .i64 lo, .int .i64 hi]] W fun e w' => e = .returned (.bool false) ∧ Below W.heap.size W w' := by
  have q1 : ((lw : Int) == 0) = false := by simp; omega
  go_enter Try.func51, Try.ntmps51
  go_wp2_with fail
  refine (uses_4 _).mono ?_
  rintro e w1 ⟨rfl, hb'⟩
  have s1 := (St.start W).new.call hb'
  clear hb'
  try simp only [World.size_setCell] at s1
  try simp only [World.size_alloc] at s1
  obtain ⟨c1, f1, zw1_1, -⟩ := s1.rules
  go_upto_region 2 with fail
  have s2 := s1.new (c := #[.bool false, .bool false, .bool true, .bool false, .bool false, .bool false, .bool false, .bool false, .bool false]) (t := 91)
  clear c1 f1
  obtain ⟨c1, g1, c2, g2, -⟩ := rulesQ_st s2
  have hne := Nonempty.intro (Wd.mk _ s2)
  refine region_held s2 (by kernel_rfl) (lex_of ozLex (by kernel_rfl)) ?_
  simp only [List.append]
  repeat (go_big_quiet_step ((go_at_call 55; exact held_of (nopad_any _ _ _ _ _ _ _ _ _))))
  refine wpQuiet_nil ?_
  intro _ hw'
  obtain ⟨nq, rfl⟩ := hw'
  go_wp2
  go_ret
  exact ⟨rfl, nq.h.below⟩
set_option maxHeartbeats 4000000 in
theorem oz_4_4 (a kh kw sh sw sm ss um us z p lo hi : Int) (wa : Option Addr) (lb wc : Nat) (ba : Option Addr) (bc : Nat) (W : World) (hn : ¬ (lb = 0)) :
    Calls Try.prog 51 #[.agg #[.int .i64 4, .int .i64 a, .int .i64 0, .int .i64 0, .int .i64 kh, .int .i64 kw, .int .i64 sh, .int .i64 sw, .int .i64 0, .int .i64 0, .int .i64 0, .int .i64 0, .slice wa 0 wc, .slice ba lb bc, .int .i64 sm, .int .i64 ss, .int .i64 um, .int .i64 us, .int .i64 z, .int .i64 p, .int .i64 lo, .int .i64 hi]] W fun e w' => e = .returned (.bool false) ∧ Below W.heap.size W w' := by
  have q1 : ((lb : Int) == 0) = false := by simp; omega
  go_enter Try.func51, Try.ntmps51
  go_wp2_with fail
  refine (uses_4 _).mono ?_
  rintro e w1 ⟨rfl, hb'⟩
  have s1 := (St.start W).new.call hb'
  clear hb'
  try simp only [World.size_setCell] at s1
  try simp only [World.size_alloc] at s1
  obtain ⟨c1, f1, zw1_1, -⟩ := s1.rules
  go_upto_region 2 with fail
  have s2 := s1.new (c := #[.bool false, .bool false, .bool true, .bool false, .bool false, .bool false, .bool false, .bool false, .bool false]) (t := 91)
  clear c1 f1
  obtain ⟨c1, g1, c2, g2, -⟩ := rulesQ_st s2
  have hne := Nonempty.intro (Wd.mk _ s2)
  refine region_held s2 (by kernel_rfl) (lex_of ozLex (by kernel_rfl)) ?_
  simp only [List.append]
  repeat (go_big_quiet_step ((go_at_call 55; exact held_of (nopad_any _ _ _ _ _ _ _ _ _))))
  refine wpQuiet_nil ?_
  intro _ hw'
  obtain ⟨nq, rfl⟩ := hw'
  go_wp2
  go_ret
  exact ⟨rfl, nq.h.below⟩
set_option maxHeartbeats 4000000 in
theorem oz_4_5 (a kh kw sh sw sm ss um us z p lo hi : Int) (wa : Option Addr) (wc : Nat) (ba : Option Addr) (bc : Nat) (W : World) (hn : ¬ (sm = 0 ∧ ss = 0)) :
    Calls Try.prog 51 #[.agg #[.int .i64 4, .int .i64 a, .int .i64 0, .int .i64 0, .int .i64 kh, .int .i64 kw, .int .i64 sh, .int .i64 sw, .int .i64 0, .int .i64 0, .int .i64 0, .int .i64 0, .slice wa 0 wc, .slice ba 0 bc, .int .i64 sm, .int .i64 ss, .int .i64 um, .int .i64 us, .int .i64 z, .int .i64 p, .int .i64 lo, .int .i64 hi]] W fun e w' => e = .returned (.bool false) ∧ Below W.heap.size W w' := by
  have q1 := eq2 52 rfl sm ss 0 0 false (decide_eq_false (by omega))
  clear hn
  go_enter Try.func51, Try.ntmps51
  go_wp2_with fail
  refine (uses_4 _).mono ?_
  rintro e w1 ⟨rfl, hb'⟩
  have s1 := (St.start W).new.call hb'
  clear hb'
  try simp only [World.size_setCell] at s1
  try simp only [World.size_alloc] at s1
  obtain ⟨c1, f1, zw1_1, -⟩ := s1.rules
  go_upto_region 2 with fail
  have s2 := s1.new (c := #[.bool false, .bool false, .bool true, .bool false, .bool false, .bool false, .bool false, .bool false, .bool false]) (t := 91)
  clear c1 f1
  obtain ⟨c1, g1, c2, g2, -⟩ := rulesQ_st s2
  have hne := Nonempty.intro (Wd.mk _ s2)
  refine region_held s2 (by kernel_rfl) (lex_of ozLex (by kernel_rfl)) ?_
  simp only [List.append]
  repeat (go_big_quiet_step ((go_at_call 55; exact held_of (nopad_any _ _ _ _ _ _ _ _ _))))
  refine wpQuiet_nil ?_
  intro _ hw'
  obtain ⟨nq, rfl⟩ := hw'
  go_wp2
  go_ret
  exact ⟨rfl, nq.h.below⟩
set_option maxHeartbeats 4000000 in
theorem oz_4_6 (a kh kw sh sw um us z p lo hi : Int) (wa : Option Addr) (wc : Nat) (ba : Option Addr) (bc : Nat) (W : World) (hn : ¬ (um = 0 ∧ us = 0)) :
    Calls Try.prog 51 #[.agg #[.int .i64 4, .int .i64 a, .int .i64 0, .int .i64 0, .int .i64 kh, .int .i64 kw, .int .i64 sh, .int .i64 sw, .int .i64 0, .int .i64 0, .int .i64 0, .int .i64 0, .slice wa 0 wc, .slice ba 0 bc, .int .i64 0, .int .i64 0, .int .i64 um, .int .i64 us, .int .i64 z, .int .i64 p, .int .i64 lo, .int .i64 hi]] W fun e w' => e = .returned (.bool false) ∧ Below W.heap.size W w' := by
  have q1 := eq2 52 rfl um us 0 0 false (decide_eq_false (by omega))
  clear hn
  go_enter Try.func51, Try.ntmps51
  go_wp2_with fail
  refine (uses_4 _).mono ?_
  rintro e w1 ⟨rfl, hb'⟩
  have s1 := (St.start W).new.call hb'
  clear hb'
  try simp only [World.size_setCell] at s1
  try simp only [World.size_alloc] at s1
  obtain ⟨c1, f1, zw1_1, -⟩ := s1.rules
  go_upto_region 2 with fail
  have s2 := s1.new (c := #[.bool false, .bool false, .bool true, .bool false, .bool false, .bool false, .bool false, .bool false, .bool false]) (t := 91)
  clear c1 f1
  obtain ⟨c1, g1, c2, g2, -⟩ := rulesQ_st s2
  have hne := Nonempty.intro (Wd.mk _ s2)
  refine region_held s2 (by kernel_rfl) (lex_of ozLex (by kernel_rfl)) ?_
  simp only [List.append]
  repeat (go_big_quiet_step ((go_at_call 55; exact held_of (nopad_any _ _ _ _ _ _ _ _ _))))
  refine wpQuiet_nil ?_
  intro _ hw'
  obtain ⟨nq, rfl⟩ := hw'
  go_wp2
  go_ret
  exact ⟨rfl, nq.h.below⟩
set_option maxHeartbeats 4000000 in
theorem oz_4_7 (a kh kw sh sw z p lo hi : Int) (wa : Option Addr) (wc : Nat) (ba : Option Addr) (bc : Nat) (W : World) (hn : ¬ (z = 0)) :
    Calls Try.prog 51 #[.agg #[.int .i64 4, .int .i64 a, .int .i64 0, .int .i64 0, .int .i64 kh, .int .i64 kw, .int .i64 sh, .int .i64 sw, .int .i64 0, .int .i64 0, .int .i64 0, .int .i64 0, .slice wa 0 wc, .slice ba 0 bc, .int .i64 0, .int .i64 0, .int .i64 0, .int .i64 0, .int .i64 z, .int .i64 p, .int .i64 lo, .int .i64 hi]] W fun e w' => e = .returned (.bool false) ∧ Below W.heap.size W w' := by
  have q1 : (z == 0) = false := by simp; omega
  go_enter Try.func51, Try.ntmps51
  go_wp2_with fail
  refine (uses_4 _).mono ?_
  rintro e w1 ⟨rfl, hb'⟩
  have s1 := (St.start W).new.call hb'
  clear hb'
  try simp only [World.size_setCell] at s1
  try simp only [World.size_alloc] at s1
  obtain ⟨c1, f1, zw1_1, -⟩ := s1.rules
  go_upto_region 2 with fail
  have s2 := s1.new (c := #[.bool false, .bool false, .bool true, .bool false, .bool false, .bool false, .bool false, .bool false, .bool false]) (t := 91)
  clear c1 f1
  obtain ⟨c1, g1, c2, g2, -⟩ := rulesQ_st s2
  have hne := Nonempty.intro (Wd.mk _ s2)
  refine region_held s2 (by kernel_rfl) (lex_of ozLex (by kernel_rfl)) ?_
  simp only [List.append]
  repeat (go_big_quiet_step ((go_at_call 55; exact held_of (nopad_any _ _ _ _ _ _ _ _ _))))
  refine wpQuiet_nil ?_
  intro _ hw'
  obtain ⟨nq, rfl⟩ := hw'
  go_wp2
  go_ret
  exact ⟨rfl, nq.h.below⟩
set_option maxHeartbeats 4000000 in
theorem oz_4_8 (a kh kw sh sw p lo hi : Int) (wa : Option Addr) (wc : Nat) (ba : Option Addr) (bc : Nat) (W : World) (hn : ¬ (p = 0)) :
    Calls Try.prog 51 #[.agg #[.int .i64 4, .int .i64 a, .int .i64 0, .int .i64 0, .int .i64 kh, .int .i64 kw, .int .i64 sh, .int .i64 sw, .int .i64 0, .int .i64 0, .int .i64 0, .int .i64 0, .slice wa 0 wc, .slice ba 0 bc, .int .i64 0, .int .i64 0, .int .i64 0, .int .i64 0, .int .i64 0, .int .i64 p, .int .i64 lo, .int .i64 hi]] W fun e w' => e = .returned (.bool false) ∧ Below W.heap.size W w' := by
  have q1 : (p == 0) = false := by simp; omega
  go_enter Try.func51, Try.ntmps51
  go_wp2_with fail
  refine (uses_4 _).mono ?_
  rintro e w1 ⟨rfl, hb'⟩
  have s1 := (St.start W).new.call hb'
  clear hb'
  try simp only [World.size_setCell] at s1
  try simp only [World.size_alloc] at s1
  obtain ⟨c1, f1, zw1_1, -⟩ := s1.rules
  go_upto_region 2 with fail
  have s2 := s1.new (c := #[.bool false, .bool false, .bool true, .bool false, .bool false, .bool false, .bool false, .bool false, .bool false]) (t := 91)
  clear c1 f1
  obtain ⟨c1, g1, c2, g2, -⟩ := rulesQ_st s2
  have hne := Nonempty.intro (Wd.mk _ s2)
  refine region_held s2 (by kernel_rfl) (lex_of ozLex (by kernel_rfl)) ?_
  simp only [List.append]
  repeat (go_big_quiet_step ((go_at_call 55; exact held_of (nopad_any _ _ _ _ _ _ _ _ _))))
  refine wpQuiet_nil ?_
  intro _ hw'
  obtain ⟨nq, rfl⟩ := hw'
  go_wp2
  go_ret
  exact ⟨rfl, nq.h.below⟩
set_option maxHeartbeats 4000000 in
theorem oz_4_9 (a kh kw sh sw lo hi : Int) (wa : Option Addr) (wc : Nat) (ba : Option Addr) (bc : Nat) (W : World)  :
    Calls Try.prog 51 #[.agg #[.int .i64 4, .int .i64 a, .int .i64 0, .int .i64 0, .int .i64 kh, .int .i64 kw, .int .i64 sh, .int .i64 sw, .int .i64 0, .int .i64 0, .int .i64 0, .int .i64 0, .slice wa 0 wc, .slice ba 0 bc, .int .i64 0, .int .i64 0, .int .i64 0, .int .i64 0, .int .i64 0, .int .i64 0, .int .i64 lo, .int .i64 hi]] W fun e w' => e = .returned (.bool true) ∧ Below W.heap.size W w' := by
  go_enter Try.func51, Try.ntmps51
  go_wp2_with fail
  refine (uses_4 _).mono ?_
  rintro e w1 ⟨rfl, hb'⟩
  have s1 := (St.start W).new.call hb'
  clear hb'
  try simp only [World.size_setCell] at s1
  try simp only [World.size_alloc] at s1
  obtain ⟨c1, f1, zw1_1, -⟩ := s1.rules
  go_upto_region 2 with fail
  have s2 := s1.new (c := #[.bool false, .bool false, .bool true, .bool false, .bool false, .bool false, .bool false, .bool false, .bool false]) (t := 91)
  clear c1 f1
  obtain ⟨c1, g1, c2, g2, -⟩ := rulesQ_st s2
  have hne := Nonempty.intro (Wd.mk _ s2)
  refine region_held s2 (by kernel_rfl) (lex_of ozLex (by kernel_rfl)) ?_
  simp only [List.append]
  repeat (go_big_quiet_step ((go_at_call 55; exact held_of (nopad_any _ _ _ _ _ _ _ _ _))))
  refine wpQuiet_nil ?_
  intro _ hw'
  obtain ⟨nq, rfl⟩ := hw'
  go_wp2
  go_ret
  exact ⟨rfl, nq.h.below⟩
set_option maxHeartbeats 4000000 in
theorem oz_5_0 (a b m kh kw sh sw tp lf bt rt sm ss um us z p lo hi : Int) (wa : Option Addr) (lw lb wc : Nat) (ba : Option Addr) (bc : Nat) (W : World) (hn : ¬ (b = 0)) :
    Calls Try.prog 51 #[.agg #[.int .i64 5, .int .i64 a, .int .i64 b, .int .i64 m, .int .i64 kh, .int .i64 kw, .int .i64 sh, .int .i64 sw, .int .i64 tp, .int .i64 lf, .int .i64 bt, .int .i64 rt, .slice wa lw wc, .slice ba lb bc, .int .i64 sm, .int .i64 ss, .int .i64 um, .int .i64 us, .int .i64 z, .int .i64 p, .int .i64 lo, .int .i64 hi]] W fun e w' => e = .returned (.bool false) ∧ Below W.heap.size W w' := by
  have q1 : (b == 0) = false := by simp; omega
  go_enter Try.func51, Try.ntmps51
  go_wp2_with fail
  refine (uses_5 _).mono ?_
  rintro e w1 ⟨rfl, hb'⟩
  have s1 := (St.start W).new.call hb'
  clear hb'
  try simp only [World.size_setCell] at s1
  try simp only [World.size_alloc] at s1
  obtain ⟨c1, f1, zw1_1, -⟩ := s1.rules
  go_upto_region 2 with fail
  have s2 := s1.new (c := #[.bool false, .bool false, .bool true, .bool false, .bool false, .bool false, .bool false, .bool false, .bool false]) (t := 91)
  clear c1 f1
  obtain ⟨c1, g1, c2, g2, -⟩ := rulesQ_st s2
  have hne := Nonempty.intro (Wd.mk _ s2)
  refine region_held s2 (by kernel_rfl) (lex_of ozLex (by kernel_rfl)) ?_
  simp only [List.append]
  repeat (go_big_quiet_step ((go_at_call 55; exact held_of (nopad_any _ _ _ _ _ _ _ _ _))))
  refine wpQuiet_nil ?_
  intro _ hw'
  obtain ⟨nq, rfl⟩ := hw'
  go_wp2
  go_ret
  exact ⟨rfl, nq.h.below⟩
set_option maxHeartbeats 4000000 in
theorem oz_5_1 (a m kh kw sh sw tp lf bt rt sm ss um us z p lo hi : Int) (wa : Option Addr) (lw lb wc : Nat) (ba : Option Addr) (bc : Nat) (W : World) (hn : ¬ (m = 0)) :
    Calls Try.prog 51 #[.agg #[.int .i64 5, .int .i64 a, .int .i64 0, .int .i64 m, .int .i64 kh, .int .i64 kw, .int .i64 sh, .int .i64 sw, .int .i64 tp, .int .i64 lf, .int .i64 bt, .int .i64 rt, .slice wa lw wc, .slice ba lb bc, .int .i64 sm, .int .i64 ss, .int .i64 um, .int .i64 us, .int .i64 z, .int .i64 p, .int .i64 lo, .int .i64 hi]] W fun e w' => e = .returned (.bool false) ∧ Below W.heap.size W w' := by
  have q1 : (m == 0) = false := by simp; omega
  go_enter Try.func51, Try.ntmps51
  go_wp2_with fail
  refine (uses_5 _).mono ?_
  rintro e w1 ⟨rfl, hb'⟩
  have s1 := (St.start W).new.call hb'
  clear hb'
  try simp only [World.size_setCell] at s1
  try simp only [World.size_alloc] at s1
  obtain ⟨c1, f1, zw1_1, -⟩ := s1.rules
  go_upto_region 2 with fail
  have s2 := s1.new (c := #[.bool false, .bool false, .bool true, .bool false, .bool false, .bool false, .bool false, .bool false, .bool false]) (t := 91)
  clear c1 f1
  obtain ⟨c1, g1, c2, g2, -⟩ := rulesQ_st s2
  have hne := Nonempty.intro (Wd.mk _ s2)
  refine region_held s2 (by kernel_rfl) (lex_of ozLex (by kernel_rfl)) ?_
  simp only [List.append]
  repeat (go_big_quiet_step ((go_at_call 55; exact held_of (nopad_any _ _ _ _ _ _ _ _ _))))
  refine wpQuiet_nil ?_
  intro _ hw'
  obtain ⟨nq, rfl⟩ := hw'
  go_wp2
  go_ret
  exact ⟨rfl, nq.h.below⟩
set_option maxHeartbeats 4000000 in
theorem oz_5_2 (a kh kw sh sw tp lf bt rt sm ss um us z p lo hi : Int) (wa : Option Addr) (lw lb wc : Nat) (ba : Option Addr) (bc : Nat) (W : World) (hn : ¬ (tp = 0 ∧ lf = 0 ∧ bt = 0 ∧ rt = 0)) :
    Calls Try.prog 51 #[.agg #[.int .i64 5, .int .i64 a, .int .i64 0, .int .i64 0, .int .i64 kh, .int .i64 kw, .int .i64 sh, .int .i64 sw, .int .i64 tp, .int .i64 lf, .int .i64 bt, .int .i64 rt, .slice wa lw wc, .slice ba lb bc, .int .i64 sm, .int .i64 ss, .int .i64 um, .int .i64 us, .int .i64 z, .int .i64 p, .int .i64 lo, .int .i64 hi]] W fun e w' => e = .returned (.bool false) ∧ Below W.heap.size W w' := by
  have q1 := eq8 48 rfl kh kw sh sw tp lf bt rt kh kw sh sw 0 0 0 0 false (decide_eq_false (by omega))
  clear hn
  go_enter Try.func51, Try.ntmps51
  go_wp2_with fail
  refine (uses_5 _).mono ?_
  rintro e w1 ⟨rfl, hb'⟩
  have s1 := (St.start W).new.call hb'
  clear hb'
  try simp only [World.size_setCell] at s1
  try simp only [World.size_alloc] at s1
  obtain ⟨c1, f1, zw1_1, -⟩ := s1.rules
  go_upto_region 2 with fail
  have s2 := s1.new (c := #[.bool false, .bool false, .bool true, .bool false, .bool false, .bool false, .bool false, .bool false, .bool false]) (t := 91)
  clear c1 f1
  obtain ⟨c1, g1, c2, g2, -⟩ := rulesQ_st s2
  have hne := Nonempty.intro (Wd.mk _ s2)
  refine region_held s2 (by kernel_rfl) (lex_of ozLex (by kernel_rfl)) ?_
  simp only [List.append]
  repeat (go_big_quiet_step ((go_at_call 55; exact held_of (nopad_any _ _ _ _ _ _ _ _ _))))
  refine wpQuiet_nil ?_
  intro _ hw'
  obtain ⟨nq, rfl⟩ := hw'
  go_wp2
  go_ret
  exact ⟨rfl, nq.h.below⟩
set_option maxHeartbeats 4000000 in
theorem oz_5_3 (a kh kw sh sw sm ss um us z p lo hi : Int) (wa : Option Addr) (lw lb wc : Nat) (ba : Option Addr) (bc : Nat) (W : World) (hn : ¬ (lw = 0)) :
    Calls Try.prog 51 #[.agg #[.int .i64 5, .int .i64 a, .int .i64 0, .int .i64 0, .int .i64 kh, .int .i64 kw, .int .i64 sh, .int .i64 sw, .int .i64 0, .int .i64 0, .int .i64 0, .int .i64 0, .slice wa lw wc, .slice ba lb bc, .int .i64 sm, .int .i64 ss, .int .i64 um, .int .i64 us, .int .i64 z, .int .i64 p, .int .i64 lo, .int .i64 hi]] W fun e w' => e = .returned (.bool false) ∧ Below W.heap.size W w' := by
  have q1 : ((lw : Int) == 0) = false := by simp; omega
  go_enter Try.func51, Try.ntmps51
  go_wp2_with fail
  refine (uses_5 _).mono ?_
  rintro e w1 ⟨rfl, hb'⟩
  have s1 := (St.start W).new.call hb'
  clear hb'
  try simp only [World.size_setCell] at s1
  try simp only [World.size_alloc] at s1
  obtain ⟨c1, f1, zw1_1, -⟩ := s1.rules
  go_upto_region 2 with fail
  have s2 := s1.new (c := #[.bool false, .bool false, .bool true, .bool false, .bool false, .bool false, .bool false, .bool false, .bool false]) (t := 91)
  clear c1 f1
  obtain ⟨c1, g1, c2, g2, -⟩ := rulesQ_st s2
  have hne := Nonempty.intro (Wd.mk _ s2)
  refine region_held s2 (by kernel_rfl) (lex_of ozLex (by kernel_rfl)) ?_
  simp only [List.append]
  repeat (go_big_quiet_step ((go_at_call 55; exact held_of (nopad_any _ _ _ _ _ _ _ _ _))))
  refine wpQuiet_nil ?_
  intro _ hw'
  obtain ⟨nq, rfl⟩ := hw'
  go_wp2
  go_ret
  exact ⟨rfl, nq.h.below⟩
set_option maxHeartbeats 4000000 in
theorem oz_5_4 (a kh kw sh sw sm ss um us z p lo hi : Int) (wa : Option Addr) (lb wc : Nat) (ba : Option Addr) (bc : Nat) (W : World) (hn : ¬ (lb = 0)) :
    Calls Try.prog 51 #[.agg #[.int .i64 5, .int .i64 a, .int .i64 0, .int .i64 0, .int .i64 kh, .int .i64 kw, .int .i64 sh, .int .i64 sw, .int .i64 0, .int .i64 0, .int .i64 0, .int .i64 0, .slice wa 0 wc, .slice ba lb bc, .int .i64 sm, .int .i64 ss, .int .i64 um, .int .i64 us, .int .i64 z, .int .i64 p, .int .i64 lo, .int .i64 hi]] W fun e w' => e = .returned (.bool false) ∧ Below W.heap.size W w' := by
  have q1 : ((lb : Int) == 0) = false := by simp; omega
  go_enter Try.func51, Try.ntmps51
  go_wp2_with fail
  refine (uses_5 _).mono ?_
  rintro e w1 ⟨rfl, hb'⟩
  have s1 := (St.start W).new.call hb'
  clear hb'
  try simp only [World.size_setCell] at s1
  try simp only [World.size_alloc] at s1
  obtain ⟨c1, f1, zw1_1, -⟩ := s1.rules
  go_upto_region 2 with fail
  have s2 := s1.new (c := #[.bool false, .bool false, .bool true, .bool false, .bool false, .bool false, .bool false, .bool false, .bool false]) (t := 91)
  clear c1 f1
  obtain ⟨c1, g1, c2, g2, -⟩ := rulesQ_st s2
  have hne := Nonempty.intro (Wd.mk _ s2)
  refine region_held s2 (by kernel_rfl) (lex_of ozLex (by kernel_rfl)) ?_
  simp only [List.append]
  repeat (go_big_quiet_step ((go_at_call 55; exact held_of (nopad_any _ _ _ _ _ _ _ _ _))))
  refine wpQuiet_nil ?_
  intro _ hw'
  obtain ⟨nq, rfl⟩ := hw'
  go_wp2
  go_ret
  exact ⟨rfl, nq.h.below⟩
set_option maxHeartbeats 4000000 in
theorem oz_5_5 (a kh kw sh sw sm ss um us z p lo hi : Int) (wa : Option Addr) (wc : Nat) (ba : Option Addr) (bc : Nat) (W : World) (hn : ¬ (sm = 0 ∧ ss = 0)) :
    Calls Try.prog 51 #[.agg #[.int .i64 5, .int .i64 a, .int .i64 0, .int .i64 0, .int .i64 kh, .int .i64 kw, .int .i64 sh, .int .i64 sw, .int .i64 0, .int .i64 0, .int .i64 0, .int .i64 0, .slice wa 0 wc, .slice ba 0 bc, .int .i64 sm, .int .i64 ss, .int .i64 um, .int .i64 us, .int .i64 z, .int .i64 p, .int .i64 lo, .int .i64 hi]] W fun e w' => e = .returned (.bool false) ∧ Below W.heap.size W w' := by
  have q1 := eq2 52 rfl sm ss 0 0 false (decide_eq_false (by omega))
  clear hn
  go_enter Try.func51, Try.ntmps51
  go_wp2_with fail
  refine (uses_5 _).mono ?_
  rintro e w1 ⟨rfl, hb'⟩
  have s1 := (St.start W).new.call hb'
  clear hb'
  try simp only [World.size_setCell] at s1
  try simp only [World.size_alloc] at s1
  obtain ⟨c1, f1, zw1_1, -⟩ := s1.rules
  go_upto_region 2 with fail
  have s2 := s1.new (c := #[.bool false, .bool false, .bool true, .bool false, .bool false, .bool false, .bool false, .bool false, .bool false]) (t := 91)
  clear c1 f1
  obtain ⟨c1, g1, c2, g2, -⟩ := rulesQ_st s2
  have hne := Nonempty.intro (Wd.mk _ s2)
  refine region_held s2 (by kernel_rfl) (lex_of ozLex (by kernel_rfl)) ?_
  simp only [List.append]
  repeat (go_big_quiet_step ((go_at_call 55; exact held_of (nopad_any _ _ _ _ _ _ _ _ _))))
  refine wpQuiet_nil ?_
  intro _ hw'
  obtain ⟨nq, rfl⟩ := hw'
  go_wp2
  go_ret
  exact ⟨rfl, nq.h.below⟩
set_option maxHeartbeats 4000000 in
theorem oz_5_6 (a kh kw sh sw um us z p lo hi : Int) (wa : Option Addr) (wc : Nat) (ba : Option Addr) (bc : Nat) (W : World) (hn : ¬ (um = 0 ∧ us = 0)) :
    Calls Try.prog 51 #[.agg #[.int .i64 5, .int .i64 a, .int .i64 0, .int .i64 0, .int .i64 kh, .int .i64 kw, .int .i64 sh, .int .i64 sw, .int .i64 0, .int .i64 0, .int .i64 0, .int .i64 0, .slice wa 0 wc, .slice ba 0 bc, .int .i64 0, .int .i64 0, .int .i64 um, .int .i64 us, .int .i64 z, .int .i64 p, .int .i64 lo, .int .i64 hi]] W fun e w' => e = .returned (.bool false) ∧ Below W.heap.size W w' := by
  have q1 := eq2 52 rfl um us 0 0 false (decide_eq_false (by omega))
  clear hn
  go_enter Try.func51, Try.ntmps51
  go_wp2_with fail
  refine (uses_5 _).mono ?_
  rintro e w1 ⟨rfl, hb'⟩
  have s1 := (St.start W).new.call hb'
  clear hb'
  try simp only [World.size_setCell] at s1
  try simp only [World.size_alloc] at s1
  obtain ⟨c1, f1, zw1_1, -⟩ := s1.rules
  go_upto_region 2 with fail
  have s2 := s1.new (c := #[.bool false, .bool false, .bool true, .bool false, .bool false, .bool false, .bool false, .bool false, .bool false]) (t := 91)
  clear c1 f1
  obtain ⟨c1, g1, c2, g2, -⟩ := rulesQ_st s2
  have hne := Nonempty.intro (Wd.mk _ s2)
  refine region_held s2 (by kernel_rfl) (lex_of ozLex (by kernel_rfl)) ?_
  simp only [List.append]
  repeat (go_big_quiet_step ((go_at_call 55; exact held_of (nopad_any _ _ _ _ _ _ _ _ _))))
  refine wpQuiet_nil ?_
  intro _ hw'
  obtain ⟨nq, rfl⟩ := hw'
  go_wp2
  go_ret
  exact ⟨rfl, nq.h.below⟩
set_option maxHeartbeats 4000000 in
theorem oz_5_7 (a kh kw sh sw z p lo hi : Int) (wa : Option Addr) (wc : Nat) (ba : Option Addr) (bc : Nat) (W : World) (hn : ¬ (z = 0)) :
    Calls Try.prog 51 #[.agg #[.int .i64 5, .int .i64 a, .int .i64 0, .int .i64 0, .int .i64 kh, .int .i64 kw, .int .i64 sh, .int .i64 sw, .int .i64 0, .int .i64 0, .int .i64 0, .int .i64 0, .slice wa 0 wc, .slice ba 0 bc, .int .i64 0, .int .i64 0, .int .i64 0, .int .i64 0, .int .i64 z, .int .i64 p, .int .i64 lo, .int .i64 hi]] W fun e w' => e = .returned (.bool false) ∧ Below W.heap.size W w' := by
  have q1 : (z == 0) = false := by simp; omega
  go_enter Try.func51, Try.ntmps51
  go_wp2_with fail
  refine (uses_5 _).mono ?_
  rintro e w1 ⟨rfl, hb'⟩
  have s1 := (St.start W).new.call hb'
  clear hb'
  try simp only [World.size_setCell] at s1
  try simp only [World.size_alloc] at s1
  obtain ⟨c1, f1, zw1_1, -⟩ := s1.rules
  go_upto_region 2 with fail
  have s2 := s1.new (c := #[.bool false, .bool false, .bool true, .bool false, .bool false, .bool false, .bool false, .bool false, .bool false]) (t := 91)
  clear c1 f1
  obtain ⟨c1, g1, c2, g2, -⟩ := rulesQ_st s2
  have hne := Nonempty.intro (Wd.mk _ s2)
  refine region_held s2 (by kernel_rfl) (lex_of ozLex (by kernel_rfl)) ?_
  simp only [List.append]
  repeat (go_big_quiet_step ((go_at_call 55; exact held_of (nopad_any _ _ _ _ _ _ _ _ _))))
  refine wpQuiet_nil ?_
  intro _ hw'
  obtain ⟨nq, rfl⟩ := hw'
  go_wp2
  go_ret
  exact ⟨rfl, nq.h.below⟩
set_option maxHeartbeats 4000000 in
theorem oz_5_8 (a kh kw sh sw p lo hi : Int) (wa : Option Addr) (wc : Nat) (ba : Option Addr) (bc : Nat) (W : World) (hn : ¬ (p = 0)) :
    Calls Try.prog 51 #[.agg #[.int .i64 5, .int .i64 a, .int .i64 0, .int .i64 0, .int .i64 kh, .int .i64 kw, .int .i64 sh, .int .i64 sw, .int .i64 0, .int .i64 0, .int .i64 0, .int .i64 0, .slice wa 0 wc, .slice ba 0 bc, .int .i64 0, .int .i64 0, .int .i64 0, .int .i64 0, .int .i64 0, .int .i64 p, .int .i64 lo, .int .i64 hi]] W fun e w' => e = .returned (.bool false) ∧ Below W.heap.size W w' := by
  have q1 : (p == 0) = false := by simp; omega
  go_enter Try.func51, Try.ntmps51
  go_wp2_with fail
  refine (uses_5 _).mono ?_
  rintro e w1 ⟨rfl, hb'⟩
  have s1 := (St.start W).new.call hb'
  clear hb'
  try simp only [World.size_setCell] at s1
  try simp only [World.size_alloc] at s1
  obtain ⟨c1, f1, zw1_1, -⟩ := s1.rules
  go_upto_region 2 with fail
  have s2 := s1.new (c := #[.bool false, .bool false, .bool true, .bool false, .bool false, .bool false, .bool false, .bool false, .bool false]) (t := 91)
  clear c1 f1
  obtain ⟨c1, g1, c2, g2, -⟩ := rulesQ_st s2
  have hne := Nonempty.intro (Wd.mk _ s2)
  refine region_held s2 (by kernel_rfl) (lex_of ozLex (by kernel_rfl)) ?_
  simp only [List.append]
  repeat (go_big_quiet_step ((go_at_call 55; exact held_of (nopad_any _ _ _ _ _ _ _ _ _))))
  refine wpQuiet_nil ?_
  intro _ hw'
  obtain ⟨nq, rfl⟩ := hw'
  go_wp2
  go_ret
  exact ⟨rfl, nq.h.below⟩
set_option maxHeartbeats 4000000 in
theorem oz_5_9 (a kh kw sh sw lo hi : Int) (wa : Option Addr) (wc : Nat) (ba : Option Addr) (bc : Nat) (W : World)  :
    Calls Try.prog 51 #[.agg #[.int .i64 5, .int .i64 a, .int .i64 0, .int .i64 0, .int .i64 kh, .int .i64 kw, .int .i64 sh, .int .i64 sw, .int .i64 0, .int .i64 0, .int .i64 0, .int .i64 0, .slice wa 0 wc, .slice ba 0 bc, .int .i64 0, .int .i64 0, .int .i64 0, .int .i64 0, .int .i64 0, .int .i64 0, .int .i64 lo, .int .i64 hi]] W fun e w' => e = .returned (.bool true) ∧ Below W.heap.size W w' := by
  go_enter Try.func51, Try.ntmps51
  go_wp2_with fail
  refine (uses_5 _).mono ?_
  rintro e w1 ⟨rfl, hb'⟩
  have s1 := (St.start W).new.call hb'
  clear hb'
  try simp only [World.size_setCell] at s1
  try simp only [World.size_alloc] at s1
  obtain ⟨c1, f1, zw1_1, -⟩ := s1.rules
  go_upto_region 2 with fail
  have s2 := s1.new (c := #[.bool false, .bool false, .bool true, .bool false, .bool false, .bool false, .bool false, .bool false, .bool false]) (t := 91)
  clear c1 f1
  obtain ⟨c1, g1, c2, g2, -⟩ := rulesQ_st s2
  have hne := Nonempty.intro (Wd.mk _ s2)
  refine region_held s2 (by kernel_rfl) (lex_of ozLex (by kernel_rfl)) ?_
  simp only [List.append]
  repeat (go_big_quiet_step ((go_at_call 55; exact held_of (nopad_any _ _ _ _ _ _ _ _ _))))
  refine wpQuiet_nil ?_
  intro _ hw'
  obtain ⟨nq, rfl⟩ := hw'
  go_wp2
  go_ret
  exact ⟨rfl, nq.h.below⟩
set_option maxHeartbeats 4000000 in
theorem oz_6_0 (a b m kh kw sh sw tp lf bt rt sm ss um us z p lo hi : Int) (wa : Option Addr) (lw lb wc : Nat) (ba : Option Addr) (bc : Nat) (W : World) (hn : ¬ (m = 0)) :
    Calls Try.prog 51 #[.agg #[.int .i64 6, .int .i64 a, .int .i64 b, .int .i64 m, .int .i64 kh, .int .i64 kw, .int .i64 sh, .int .i64 sw, .int .i64 tp, .int .i64 lf, .int .i64 bt, .int .i64 rt, .slice wa lw wc, .slice ba lb bc, .int .i64 sm, .int .i64 ss, .int .i64 um, .int .i64 us, .int .i64 z, .int .i64 p, .int .i64 lo, .int .i64 hi]] W fun e w' => e = .returned (.bool false) ∧ Below W.heap.size W w' := by
  have q1 : (m == 0) = false := by simp; omega
  go_enter Try.func51, Try.ntmps51
  go_wp2_with fail
  refine (uses_6 _).mono ?_
  rintro e w1 ⟨rfl, hb'⟩
  have s1 := (St.start W).new.call hb'
  clear hb'
  try simp only [World.size_setCell] at s1
  try simp only [World.size_alloc] at s1
  obtain ⟨c1, f1, zw1_1, -⟩ := s1.rules
  go_upto_region 2 with fail
  have s2 := s1.new (c := #[.bool true, .bool false, .bool false, .bool false, .bool false, .bool true, .bool true, .bool true, .bool false]) (t := 91)
  clear c1 f1
  obtain ⟨c1, g1, c2, g2, -⟩ := rulesQ_st s2
  have hne := Nonempty.intro (Wd.mk _ s2)
  refine region_held s2 (by kernel_rfl) (lex_of ozLex (by kernel_rfl)) ?_
  simp only [List.append]
  repeat (go_big_quiet_step ((go_at_call 55; exact held_of (nopad_any _ _ _ _ _ _ _ _ _))))
  refine wpQuiet_nil ?_
  intro _ hw'
  obtain ⟨nq, rfl⟩ := hw'
  go_wp2
  go_ret
  exact ⟨rfl, nq.h.below⟩
set_option maxHeartbeats 4000000 in
theorem oz_6_1 (a b kh kw sh sw tp lf bt rt sm ss um us z p lo hi : Int) (wa : Option Addr) (lw lb wc : Nat) (ba : Option Addr) (bc : Nat) (W : World) (hn : ¬ (kh = 0 ∧ kw = 0 ∧ sh = 0 ∧ sw = 0 ∧ tp = 0 ∧ lf = 0 ∧ bt = 0 ∧ rt = 0)) :
    Calls Try.prog 51 #[.agg #[.int .i64 6, .int .i64 a, .int .i64 b, .int .i64 0, .int .i64 kh, .int .i64 kw, .int .i64 sh, .int .i64 sw, .int .i64 tp, .int .i64 lf, .int .i64 bt, .int .i64 rt, .slice wa lw wc, .slice ba lb bc, .int .i64 sm, .int .i64 ss, .int .i64 um, .int .i64 us, .int .i64 z, .int .i64 p, .int .i64 lo, .int .i64 hi]] W fun e w' => e = .returned (.bool false) ∧ Below W.heap.size W w' := by
  have q1 := eq8 48 rfl kh kw sh sw tp lf bt rt 0 0 0 0 0 0 0 0 false (decide_eq_false (by omega))
  clear hn
  go_enter Try.func51, Try.ntmps51
  go_wp2_with fail
  refine (uses_6 _).mono ?_
  rintro e w1 ⟨rfl, hb'⟩
  have s1 := (St.start W).new.call hb'
  clear hb'
  try simp only [World.size_setCell] at s1
  try simp only [World.size_alloc] at s1
  obtain ⟨c1, f1, zw1_1, -⟩ := s1.rules
  go_upto_region 2 with fail
  have s2 := s1.new (c := #[.bool true, .bool false, .bool false, .bool false, .bool false, .bool true, .bool true, .bool true, .bool false]) (t := 91)
  clear c1 f1
  obtain ⟨c1, g1, c2, g2, -⟩ := rulesQ_st s2
  have hne := Nonempty.intro (Wd.mk _ s2)
  refine region_held s2 (by kernel_rfl) (lex_of ozLex (by kernel_rfl)) ?_
  simp only [List.append]
  repeat (go_big_quiet_step ((go_at_call 55; exact held_of (nopad_any _ _ _ _ _ _ _ _ _))))
  refine wpQuiet_nil ?_
  intro _ hw'
  obtain ⟨nq, rfl⟩ := hw'
  go_wp2
  go_ret
  exact ⟨rfl, nq.h.below⟩
set_option maxHeartbeats 4000000 in
theorem oz_6_2 (a b sm ss um us z p lo hi : Int) (wa : Option Addr) (lw lb wc : Nat) (ba : Option Addr) (bc : Nat) (W : World) (hn : ¬ (lw = 0)) :
    Calls Try.prog 51 #[.agg #[.int .i64 6, .int .i64 a, .int .i64 b, .int .i64 0, .int .i64 0, .int .i64 0, .int .i64 0, .int .i64 0, .int .i64 0, .int .i64 0, .int .i64 0, .int .i64 0, .slice wa lw wc, .slice ba lb bc, .int .i64 sm, .int .i64 ss, .int .i64 um, .int .i64 us, .int .i64 z, .int .i64 p, .int .i64 lo, .int .i64 hi]] W fun e w' => e = .returned (.bool false) ∧ Below W.heap.size W w' := by
  have q1 : ((lw : Int) == 0) = false := by simp; omega
  go_enter Try.func51, Try.ntmps51
  go_wp2_with fail
  refine (uses_6 _).mono ?_
  rintro e w1 ⟨rfl, hb'⟩
  have s1 := (St.start W).new.call hb'
  clear hb'
  try simp only [World.size_setCell] at s1
  try simp only [World.size_alloc] at s1
  obtain ⟨c1, f1, zw1_1, -⟩ := s1.rules
  go_upto_region 2 with fail
  have s2 := s1.new (c := #[.bool true, .bool false, .bool false, .bool false, .bool false, .bool true, .bool true, .bool true, .bool false]) (t := 91)
  clear c1 f1
  obtain ⟨c1, g1, c2, g2, -⟩ := rulesQ_st s2
  have hne := Nonempty.intro (Wd.mk _ s2)
  refine region_held s2 (by kernel_rfl) (lex_of ozLex (by kernel_rfl)) ?_
  simp only [List.append]
  repeat (go_big_quiet_step ((go_at_call 55; exact held_of (nopad_any _ _ _ _ _ _ _ _ _))))
  refine wpQuiet_nil ?_
  intro _ hw'
  obtain ⟨nq, rfl⟩ := hw'
  go_wp2
  go_ret
  exact ⟨rfl, nq.h.below⟩
set_option maxHeartbeats 4000000 in
theorem oz_6_3 (a b sm ss um us z p lo hi : Int) (wa : Option Addr) (lb wc : Nat) (ba : Option Addr) (bc : Nat) (W : World) (hn : ¬ (lb = 0)) :
    Calls Try.prog 51 #[.agg #[.int .i64 6, .int .i64 a, .int .i64 b, .int .i64 0, .int .i64 0, .int .i64 0, .int .i64 0, .int .i64 0, .int .i64 0, .int .i64 0, .int .i64 0, .int .i64 0, .slice wa 0 wc, .slice ba lb bc, .int .i64 sm, .int .i64 ss, .int .i64 um, .int .i64 us, .int .i64 z, .int .i64 p, .int .i64 lo, .int .i64 hi]] W fun e w' => e = .returned (.bool false) ∧ Below W.heap.size W w' := by
  have q1 : ((lb : Int) == 0) = false := by simp; omega
  go_enter Try.func51, Try.ntmps51
  go_wp2_with fail
  refine (uses_6 _).mono ?_
  rintro e w1 ⟨rfl, hb'⟩
  have s1 := (St.start W).new.call hb'
  clear hb'
  try simp only [World.size_setCell] at s1
  try simp only [World.size_alloc] at s1
  obtain ⟨c1, f1, zw1_1, -⟩ := s1.rules
  go_upto_region 2 with fail
  have s2 := s1.new (c := #[.bool true, .bool false, .bool false, .bool false, .bool false, .bool true, .bool true, .bool true, .bool false]) (t := 91)
  clear c1 f1
  obtain ⟨c1, g1, c2, g2, -⟩ := rulesQ_st s2
  have hne := Nonempty.intro (Wd.mk _ s2)
  refine region_held s2 (by kernel_rfl) (lex_of ozLex (by kernel_rfl)) ?_
  simp only [List.append]
  repeat (go_big_quiet_step ((go_at_call 55; exact held_of (nopad_any _ _ _ _ _ _ _ _ _))))
  refine wpQuiet_nil ?_
  intro _ hw'
  obtain ⟨nq, rfl⟩ := hw'
  go_wp2
  go_ret
  exact ⟨rfl, nq.h.below⟩
set_option maxHeartbeats 4000000 in
theorem oz_6_4 (a b sm ss um us z p lo hi : Int) (wa : Option Addr) (wc : Nat) (ba : Option Addr) (bc : Nat) (W : World) (hn : ¬ (p = 0)) :
    Calls Try.prog 51 #[.agg #[.int .i64 6, .int .i64 a, .int .i64 b, .int .i64 0, .int .i64 0, .int .i64 0, .int .i64 0, .int .i64 0, .int .i64 0, .int .i64 0, .int .i64 0, .int .i64 0, .slice wa 0 wc, .slice ba 0 bc, .int .i64 sm, .int .i64 ss, .int .i64 um, .int .i64 us, .int .i64 z, .int .i64 p, .int .i64 lo, .int .i64 hi]] W fun e w' => e = .returned (.bool false) ∧ Below W.heap.size W w' := by
  have q1 : (p == 0) = false := by simp; omega
  go_enter Try.func51, Try.ntmps51
  go_wp2_with fail
  refine (uses_6 _).mono ?_
  rintro e w1 ⟨rfl, hb'⟩
  have s1 := (St.start W).new.call hb'
  clear hb'
  try simp only [World.size_setCell] at s1
  try simp only [World.size_alloc] at s1
  obtain ⟨c1, f1, zw1_1, -⟩ := s1.rules
  go_upto_region 2 with fail
  have s2 := s1.new (c := #[.bool true, .bool false, .bool false, .bool false, .bool false, .bool true, .bool true, .bool true, .bool false]) (t := 91)
  clear c1 f1
  obtain ⟨c1, g1, c2, g2, -⟩ := rulesQ_st s2
  have hne := Nonempty.intro (Wd.mk _ s2)
  refine region_held s2 (by kernel_rfl) (lex_of ozLex (by kernel_rfl)) ?_
  simp only [List.append]
  repeat (go_big_quiet_step ((go_at_call 55; exact held_of (nopad_any _ _ _ _ _ _ _ _ _))))
  refine wpQuiet_nil ?_
  intro _ hw'
  obtain ⟨nq, rfl⟩ := hw'
  go_wp2
  go_ret
  exact ⟨rfl, nq.h.below⟩
set_option maxHeartbeats 4000000 in
theorem oz_6_5 (a b sm ss um us z lo hi : Int) (wa : Option Addr) (wc : Nat) (ba : Option Addr) (bc : Nat) (W : World)  :
    Calls Try.prog 51 #[.agg #[.int .i64 6, .int .i64 a, .int .i64 b, .int .i64 0, .int .i64 0, .int .i64 0, .int .i64 0, .int .i64 0, .int .i64 0, .int .i64 0, .int .i64 0, .int .i64 0, .slice wa 0 wc, .slice ba 0 bc, .int .i64 sm, .int .i64 ss, .int .i64 um, .int .i64 us, .int .i64 z, .int .i64 0, .int .i64 lo, .int .i64 hi]] W fun e w' => e = .returned (.bool true) ∧ Below W.heap.size W w' := by
  go_enter Try.func51, Try.ntmps51
  go_wp2_with fail
  refine (uses_6 _).mono ?_
  rintro e w1 ⟨rfl, hb'⟩
  have s1 := (St.start W).new.call hb'
  clear hb'
  try simp only [World.size_setCell] at s1
  try simp only [World.size_alloc] at s1
  obtain ⟨c1, f1, zw1_1, -⟩ := s1.rules
  go_upto_region 2 with fail
  have s2 := s1.new (c := #[.bool true, .bool false, .bool false, .bool false, .bool false, .bool true, .bool true, .bool true, .bool false]) (t := 91)
  clear c1 f1
  obtain ⟨c1, g1, c2, g2, -⟩ := rulesQ_st s2
  have hne := Nonempty.intro (Wd.mk _ s2)
  refine region_held s2 (by kernel_rfl) (lex_of ozLex (by kernel_rfl)) ?_
  simp only [List.append]
  repeat (go_big_quiet_step ((go_at_call 55; exact held_of (nopad_any _ _ _ _ _ _ _ _ _))))
  refine wpQuiet_nil ?_
  intro _ hw'
  obtain ⟨nq, rfl⟩ := hw'
  go_wp2
  go_ret
  exact ⟨rfl, nq.h.below⟩
set_option maxHeartbeats 4000000 in
theorem oz_7_0 (a b m kh kw sh sw tp lf bt rt sm ss um us z p lo hi : Int) (wa : Option Addr) (lw lb wc : Nat) (ba : Option Addr) (bc : Nat) (W : World) (hn : ¬ (b = 0)) :
    Calls Try.prog 51 #[.agg #[.int .i64 7, .int .i64 a, .int .i64 b, .int .i64 m, .int .i64 kh, .int .i64 kw, .int .i64 sh, .int .i64 sw, .int .i64 tp, .int .i64 lf, .int .i64 bt, .int .i64 rt, .slice wa lw wc, .slice ba lb bc, .int .i64 sm, .int .i64 ss, .int .i64 um, .int .i64 us, .int .i64 z, .int .i64 p, .int .i64 lo, .int .i64 hi]] W fun e w' => e = .returned (.bool false) ∧ Below W.heap.size W w' := by
  have q1 : (b == 0) = false := by simp; omega
  go_enter Try.func51, Try.ntmps51
  go_wp2_with fail
  refine (uses_7 _).mono ?_
  rintro e w1 ⟨rfl, hb'⟩
  have s1 := (St.start W).new.call hb'
  clear hb'
  try simp only [World.size_setCell] at s1
  try simp only [World.size_alloc] at s1
  obtain ⟨c1, f1, zw1_1, -⟩ := s1.rules
  go_upto_region 2 with fail
  have s2 := s1.new (c := #[.bool false, .bool false, .bool false, .bool false, .bool false, .bool true, .bool false, .bool true, .bool false]) (t := 91)
  clear c1 f1
  obtain ⟨c1, g1, c2, g2, -⟩ := rulesQ_st s2
  have hne := Nonempty.intro (Wd.mk _ s2)
  refine region_held s2 (by kernel_rfl) (lex_of ozLex (by kernel_rfl)) ?_
  simp only [List.append]
  repeat (go_big_quiet_step ((go_at_call 55; exact held_of (nopad_any _ _ _ _ _ _ _ _ _))))
  refine wpQuiet_nil ?_
  intro _ hw'
  obtain ⟨nq, rfl⟩ := hw'
  go_wp2
  go_ret
  exact ⟨rfl, nq.h.below⟩
set_option maxHeartbeats 4000000 in
theorem oz_7_1 (a m kh kw sh sw tp lf bt rt sm ss um us z p lo hi : Int) (wa : Option Addr) (lw lb wc : Nat) (ba : Option Addr) (bc : Nat) (W : World) (hn : ¬ (m = 0)) :
    Calls Try.prog 51 #[.agg #[.int .i64 7, .int .i64 a, .int .i64 0, .int .i64 m, .int .i64 kh, .int .i64 kw, .int .i64 sh, .int .i64 sw, .int .i64 tp, .int .i64 lf, .int .i64 bt, .int .i64 rt, .slice wa lw wc, .slice ba lb bc, .int .i64 sm, .int .i64 ss, .int .i64 um, .int .i64 us, .int .i64 z, .int .i64 p, .int .i64 lo, .int .i64 hi]] W fun e w' => e = .returned (.bool false) ∧ Below W.heap.size W w' := by
  have q1 : (m == 0) = false := by simp; omega
  go_enter Try.func51, Try.ntmps51
  go_wp2_with fail
  refine (uses_7 _).mono ?_
  rintro e w1 ⟨rfl, hb'⟩
  have s1 := (St.start W).new.call hb'
  clear hb'
  try simp only [World.size_setCell] at s1
  try simp only [World.size_alloc] at s1
  obtain ⟨c1, f1, zw1_1, -⟩ := s1.rules
  go_upto_region 2 with fail
  have s2 := s1.new (c := #[.bool false, .bool false, .bool false, .bool false, .bool false, .bool true, .bool false, .bool true, .bool false]) (t := 91)
  clear c1 f1
  obtain ⟨c1, g1, c2, g2, -⟩ := rulesQ_st s2
  have hne := Nonempty.intro (Wd.mk _ s2)
  refine region_held s2 (by kernel_rfl) (lex_of ozLex (by kernel_rfl)) ?_
  simp only [List.append]
  repeat (go_big_quiet_step ((go_at_call 55; exact held_of (nopad_any _ _ _ _ _ _ _ _ _))))
  refine wpQuiet_nil ?_
  intro _ hw'
  obtain ⟨nq, rfl⟩ := hw'
  go_wp2
  go_ret
  exact ⟨rfl, nq.h.below⟩
set_option maxHeartbeats 4000000 in
theorem oz_7_2 (a kh kw sh sw tp lf bt rt sm ss um us z p lo hi : Int) (wa : Option Addr) (lw lb wc : Nat) (ba : Option Addr) (bc : Nat) (W : World) (hn : ¬ (kh = 0 ∧ kw = 0 ∧ sh = 0 ∧ sw = 0 ∧ tp = 0 ∧ lf = 0 ∧ bt = 0 ∧ rt = 0)) :
    Calls Try.prog 51 #[.agg #[.int .i64 7, .int .i64 a, .int .i64 0, .int .i64 0, .int .i64 kh, .int .i64 kw, .int .i64 sh, .int .i64 sw, .int .i64 tp, .int .i64 lf, .int .i64 bt, .int .i64 rt, .slice wa lw wc, .slice ba lb bc, .int .i64 sm, .int .i64 ss, .int .i64 um, .int .i64 us, .int .i64 z, .int .i64 p, .int .i64 lo, .int .i64 hi]] W fun e w' => e = .returned (.bool false) ∧ Below W.heap.size W w' := by
  have q1 := eq8 48 rfl kh kw sh sw tp lf bt rt 0 0 0 0 0 0 0 0 false (decide_eq_false (by omega))
  clear hn
  go_enter Try.func51, Try.ntmps51
  go_wp2_with fail
  refine (uses_7 _).mono ?_
  rintro e w1 ⟨rfl, hb'⟩
  have s1 := (St.start W).new.call hb'
  clear hb'
  try simp only [World.size_setCell] at s1
  try simp only [World.size_alloc] at s1
  obtain ⟨c1, f1, zw1_1, -⟩ := s1.rules
  go_upto_region 2 with fail
  have s2 := s1.new (c := #[.bool false, .bool false, .bool false, .bool false, .bool false, .bool true, .bool false, .bool true, .bool false]) (t := 91)
  clear c1 f1
  obtain ⟨c1, g1, c2, g2, -⟩ := rulesQ_st s2
  have hne := Nonempty.intro (Wd.mk _ s2)
  refine region_held s2 (by kernel_rfl) (lex_of ozLex (by kernel_rfl)) ?_
  simp only [List.append]
  repeat (go_big_quiet_step ((go_at_call 55; exact held_of (nopad_any _ _ _ _ _ _ _ _ _))))
  refine wpQuiet_nil ?_
  intro _ hw'
  obtain ⟨nq, rfl⟩ := hw'
  go_wp2
  go_ret
  exact ⟨rfl, nq.h.below⟩
set_option maxHeartbeats 4000000 in
theorem oz_7_3 (a sm ss um us z p lo hi : Int) (wa : Option Addr) (lw lb wc : Nat) (ba : Option Addr) (bc : Nat) (W : World) (hn : ¬ (lw = 0)) :
    Calls Try.prog 51 #[.agg #[.int .i64 7, .int .i64 a, .int .i64 0, .int .i64 0, .int .i64 0, .int .i64 0, .int .i64 0, .int .i64 0, .int .i64 0, .int .i64 0, .int .i64 0, .int .i64 0, .slice wa lw wc, .slice ba lb bc, .int .i64 sm, .int .i64 ss, .int .i64 um, .int .i64 us, .int .i64 z, .int .i64 p, .int .i64 lo, .int .i64 hi]] W fun e w' => e = .returned (.bool false) ∧ Below W.heap.size W w' := by
  have q1 : ((lw : Int) == 0) = false := by simp; omega
  go_enter Try.func51, Try.ntmps51
  go_wp2_with fail
  refine (uses_7 _).mono ?_
  rintro e w1 ⟨rfl, hb'⟩
  have s1 := (St.start W).new.call hb'
  clear hb'
  try simp only [World.size_setCell] at s1
  try simp only [World.size_alloc] at s1
  obtain ⟨c1, f1, zw1_1, -⟩ := s1.rules
  go_upto_region 2 with fail
  have s2 := s1.new (c := #[.bool false, .bool false, .bool false, .bool false, .bool false, .bool true, .bool false, .bool true, .bool false]) (t := 91)
  clear c1 f1
  obtain ⟨c1, g1, c2, g2, -⟩ := rulesQ_st s2
  have hne := Nonempty.intro (Wd.mk _ s2)
  refine region_held s2 (by kernel_rfl) (lex_of ozLex (by kernel_rfl)) ?_
  simp only [List.append]
  repeat (go_big_quiet_step ((go_at_call 55; exact held_of (nopad_any _ _ _ _ _ _ _ _ _))))
  refine wpQuiet_nil ?_
  intro _ hw'
  obtain ⟨nq, rfl⟩ := hw'
  go_wp2
  go_ret
  exact ⟨rfl, nq.h.below⟩
set_option maxHeartbeats 4000000 in
theorem oz_7_4 (a sm ss um us z p lo hi : Int) (wa : Option Addr) (lb wc : Nat) (ba : Option Addr) (bc : Nat) (W : World) (hn : ¬ (lb = 0)) :
    Calls Try.prog 51 #[.agg #[.int .i64 7, .int .i64 a, .int .i64 0, .int .i64 0, .int .i64 0, .int .i64 0, .int .i64 0, .int .i64 0, .int .i64 0, .int .i64 0, .int .i64 0, .int .i64 0, .slice wa 0 wc, .slice ba lb bc, .int .i64 sm, .int .i64 ss, .int .i64 um, .int .i64 us, .int .i64 z, .int .i64 p, .int .i64 lo, .int .i64 hi]] W fun e w' => e = .returned (.bool false) ∧ Below W.heap.size W w' := by
  have q1 : ((lb : Int) == 0) = false := by simp; omega
  go_enter Try.func51, Try.ntmps51
  go_wp2_with fail
  refine (uses_7 _).mono ?_
  rintro e w1 ⟨rfl, hb'⟩
  have s1 := (St.start W).new.call hb'
  clear hb'
  try simp only [World.size_setCell] at s1
  try simp only [World.size_alloc] at s1
  obtain ⟨c1, f1, zw1_1, -⟩ := s1.rules
  go_upto_region 2 with fail
  have s2 := s1.new (c := #[.bool false, .bool false, .bool false, .bool false, .bool false, .bool true, .bool false, .bool true, .bool false]) (t := 91)
  clear c1 f1
  obtain ⟨c1, g1, c2, g2, -⟩ := rulesQ_st s2
  have hne := Nonempty.intro (Wd.mk _ s2)
  refine region_held s2 (by kernel_rfl) (lex_of ozLex (by kernel_rfl)) ?_
  simp only [List.append]
  repeat (go_big_quiet_step ((go_at_call 55; exact held_of (nopad_any _ _ _ _ _ _ _ _ _))))
  refine wpQuiet_nil ?_
  intro _ hw'
  obtain ⟨nq, rfl⟩ := hw'
  go_wp2
  go_ret
  exact ⟨rfl, nq.h.below⟩
set_option maxHeartbeats 4000000 in
theorem oz_7_5 (a sm ss um us z p lo hi : Int) (wa : Option Addr) (wc : Nat) (ba : Option Addr) (bc : Nat) (W : World) (hn : ¬ (um = 0 ∧ us = 0)) :
    Calls Try.prog 51 #[.agg #[.int .i64 7, .int .i64 a, .int .i64 0, .int .i64 0, .int .i64 0, .int .i64 0, .int .i64 0, .int .i64 0, .int .i64 0, .int .i64 0, .int .i64 0, .int .i64 0, .slice wa 0 wc, .slice ba 0 bc, .int .i64 sm, .int .i64 ss, .int .i64 um, .int .i64 us, .int .i64 z, .int .i64 p, .int .i64 lo, .int .i64 hi]] W fun e w' => e = .returned (.bool false) ∧ Below W.heap.size W w' := by
  have q1 := eq2 52 rfl um us 0 0 false (decide_eq_false (by omega))
  clear hn
  go_enter Try.func51, Try.ntmps51
  go_wp2_with fail
  refine (uses_7 _).mono ?_
  rintro e w1 ⟨rfl, hb'⟩
  have s1 := (St.start W).new.call hb'
  clear hb'
  try simp only [World.size_setCell] at s1
  try simp only [World.size_alloc] at s1
  obtain ⟨c1, f1, zw1_1, -⟩ := s1.rules
  go_upto_region 2 with fail
  have s2 := s1.new (c := #[.bool false, .bool false, .bool false, .bool false, .bool false, .bool true, .bool false, .bool true, .bool false]) (t := 91)
  clear c1 f1
  obtain ⟨c1, g1, c2, g2, -⟩ := rulesQ_st s2
  have hne := Nonempty.intro (Wd.mk _ s2)
  refine region_held s2 (by kernel_rfl) (lex_of ozLex (by kernel_rfl)) ?_
  simp only [List.append]
  repeat (go_big_quiet_step ((go_at_call 55; exact held_of (nopad_any _ _ _ _ _ _ _ _ _))))
  refine wpQuiet_nil ?_
  intro _ hw'
  obtain ⟨nq, rfl⟩ := hw'
  go_wp2
  go_ret
  exact ⟨rfl, nq.h.below⟩
set_option maxHeartbeats 4000000 in
theorem oz_7_6 (a sm ss z p lo hi : Int) (wa : Option Addr) (wc : Nat) (ba : Option Addr) (bc : Nat) (W : World) (hn : ¬ (p = 0)) :
    Calls Try.prog 51 #[.agg #[.int .i64 7, .int .i64 a, .int .i64 0, .int .i64 0, .int .i64 0, .int .i64 0, .int .i64 0, .int .i64 0, .int .i64 0, .int .i64 0, .int .i64 0, .int .i64 0, .slice wa 0 wc, .slice ba 0 bc, .int .i64 sm, .int .i64 ss, .int .i64 0, .int .i64 0, .int .i64 z, .int .i64 p, .int .i64 lo, .int .i64 hi]] W fun e w' => e = .returned (.bool false) ∧ Below W.heap.size W w' := by
  have q1 : (p == 0) = false := by simp; omega
  go_enter Try.func51, Try.ntmps51
  go_wp2_with fail
  refine (uses_7 _).mono ?_
  rintro e w1 ⟨rfl, hb'⟩
  have s1 := (St.start W).new.call hb'
  clear hb'
  try simp only [World.size_setCell] at s1
  try simp only [World.size_alloc] at s1
  obtain ⟨c1, f1, zw1_1, -⟩ := s1.rules
  go_upto_region 2 with fail
  have s2 := s1.new (c := #[.bool false, .bool false, .bool false, .bool false, .bool false, .bool true, .bool false, .bool true, .bool false]) (t := 91)
  clear c1 f1
  obtain ⟨c1, g1, c2, g2, -⟩ := rulesQ_st s2
  have hne := Nonempty.intro (Wd.mk _ s2)
  refine region_held s2 (by kernel_rfl) (lex_of ozLex (by kernel_rfl)) ?_
  simp only [List.append]
  repeat (go_big_quiet_step ((go_at_call 55; exact held_of (nopad_any _ _ _ _ _ _ _ _ _))))
  refine wpQuiet_nil ?_
  intro _ hw'
  obtain ⟨nq, rfl⟩ := hw'
  go_wp2
  go_ret
  exact ⟨rfl, nq.h.below⟩
set_option maxHeartbeats 4000000 in
theorem oz_7_7 (a sm ss z lo hi : Int) (wa : Option Addr) (wc : Nat) (ba : Option Addr) (bc : Nat) (W : World)  :
    Calls Try.prog 51 #[.agg #[.int .i64 7, .int .i64 a, .int .i64 0, .int .i64 0, .int .i64 0, .int .i64 0, .int .i64 0, .int .i64 0, .int .i64 0, .int .i64 0, .int .i64 0, .int .i64 0, .slice wa 0 wc, .slice ba 0 bc, .int .i64 sm, .int .i64 ss, .int .i64 0, .int .i64 0, .int .i64 z, .int .i64 0, .int .i64 lo, .int .i64 hi]] W fun e w' => e = .returned (.bool true) ∧ Below W.heap.size W w' := by
  go_enter Try.func51, Try.ntmps51
  go_wp2_with fail
  refine (uses_7 _).mono ?_
  rintro e w1 ⟨rfl, hb'⟩
  have s1 := (St.start W).new.call hb'
  clear hb'
  try simp only [World.size_setCell] at s1
  try simp only [World.size_alloc] at s1
  obtain ⟨c1, f1, zw1_1, -⟩ := s1.rules
  go_upto_region 2 with fail
  have s2 := s1.new (c := #[.bool false, .bool false, .bool false, .bool false, .bool false, .bool true, .bool false, .bool true, .bool false]) (t := 91)
  clear c1 f1
  obtain ⟨c1, g1, c2, g2, -⟩ := rulesQ_st s2
  have hne := Nonempty.intro (Wd.mk _ s2)
  refine region_held s2 (by kernel_rfl) (lex_of ozLex (by kernel_rfl)) ?_
  simp only [List.append]
  repeat (go_big_quiet_step ((go_at_call 55; exact held_of (nopad_any _ _ _ _ _ _ _ _ _))))
  refine wpQuiet_nil ?_
  intro _ hw'
  obtain ⟨nq, rfl⟩ := hw'
  go_wp2
  go_ret
  exact ⟨rfl, nq.h.below⟩
set_option maxHeartbeats 4000000 in
theorem oz_8_0 (a b m kh kw sh sw tp lf bt rt sm ss um us z p lo hi : Int) (wa : Option Addr) (lw lb wc : Nat) (ba : Option Addr) (bc : Nat) (W : World) (hn : ¬ (b = 0)) :
    Calls Try.prog 51 #[.agg #[.int .i64 8, .int .i64 a, .int .i64 b, .int .i64 m, .int .i64 kh, .int .i64 kw, .int .i64 sh, .int .i64 sw, .int .i64 tp, .int .i64 lf, .int .i64 bt, .int .i64 rt, .slice wa lw wc, .slice ba lb bc, .int .i64 sm, .int .i64 ss, .int .i64 um, .int .i64 us, .int .i64 z, .int .i64 p, .int .i64 lo, .int .i64 hi]] W fun e w' => e = .returned (.bool false) ∧ Below W.heap.size W w' := by
  have q1 : (b == 0) = false := by simp; omega
  go_enter Try.func51, Try.ntmps51
  go_wp2_with fail
  refine (uses_8 _).mono ?_
  rintro e w1 ⟨rfl, hb'⟩
  have s1 := (St.start W).new.call hb'
  clear hb'
  try simp only [World.size_setCell] at s1
  try simp only [World.size_alloc] at s1
  obtain ⟨c1, f1, zw1_1, -⟩ := s1.rules
  go_upto_region 2 with fail
  have s2 := s1.new (c := #[.bool false, .bool false, .bool false, .bool false, .bool false, .bool false, .bool false, .bool false, .bool false]) (t := 91)
  clear c1 f1
  obtain ⟨c1, g1, c2, g2, -⟩ := rulesQ_st s2
  have hne := Nonempty.intro (Wd.mk _ s2)
  refine region_held s2 (by kernel_rfl) (lex_of ozLex (by kernel_rfl)) ?_
  simp only [List.append]
  repeat (go_big_quiet_step ((go_at_call 55; exact held_of (nopad_any _ _ _ _ _ _ _ _ _))))
  refine wpQuiet_nil ?_
  intro _ hw'
  obtain ⟨nq, rfl⟩ := hw'
  go_wp2
  go_ret
  exact ⟨rfl, nq.h.below⟩
set_option maxHeartbeats 4000000 in
theorem oz_8_1 (a m kh kw sh sw tp lf bt rt sm ss um us z p lo hi : Int) (wa : Option Addr) (lw lb wc : Nat) (ba : Option Addr) (bc : Nat) (W : World) (hn : ¬ (m = 0)) :
    Calls Try.prog 51 #[.agg #[.int .i64 8, .int .i64 a, .int .i64 0, .int .i64 m, .int .i64 kh, .int .i64 kw, .int .i64 sh, .int .i64 sw, .int .i64 tp, .int .i64 lf, .int .i64 bt, .int .i64 rt, .slice wa lw wc, .slice ba lb bc, .int .i64 sm, .int .i64 ss, .int .i64 um, .int .i64 us, .int .i64 z, .int .i64 p, .int .i64 lo, .int .i64 hi]] W fun e w' => e = .returned (.bool false) ∧ Below W.heap.size W w' := by
  have q1 : (m == 0) = false := by simp; omega
  go_enter Try.func51, Try.ntmps51
  go_wp2_with fail
  refine (uses_8 _).mono ?_
  rintro e w1 ⟨rfl, hb'⟩
  have s1 := (St.start W).new.call hb'
  clear hb'
  try simp only [World.size_setCell] at s1
  try simp only [World.size_alloc] at s1
  obtain ⟨c1, f1, zw1_1, -⟩ := s1.rules
  go_upto_region 2 with fail
  have s2 := s1.new (c := #[.bool false, .bool false, .bool false, .bool false, .bool false, .bool false, .bool false, .bool false, .bool false]) (t := 91)
  clear c1 f1
  obtain ⟨c1, g1, c2, g2, -⟩ := rulesQ_st s2
  have hne := Nonempty.intro (Wd.mk _ s2)
  refine region_held s2 (by kernel_rfl) (lex_of ozLex (by kernel_rfl)) ?_
  simp only [List.append]
  repeat (go_big_quiet_step ((go_at_call 55; exact held_of (nopad_any _ _ _ _ _ _ _ _ _))))
  refine wpQuiet_nil ?_
  intro _ hw'
  obtain ⟨nq, rfl⟩ := hw'
  go_wp2
  go_ret
  exact ⟨rfl, nq.h.below⟩
set_option maxHeartbeats 4000000 in
theorem oz_8_2 (a kh kw sh sw tp lf bt rt sm ss um us z p lo hi : Int) (wa : Option Addr) (lw lb wc : Nat) (ba : Option Addr) (bc : Nat) (W : World) (hn : ¬ (kh = 0 ∧ kw = 0 ∧ sh = 0 ∧ sw = 0 ∧ tp = 0 ∧ lf = 0 ∧ bt = 0 ∧ rt = 0)) :
    Calls Try.prog 51 #[.agg #[.int .i64 8, .int .i64 a, .int .i64 0, .int .i64 0, .int .i64 kh, .int .i64 kw, .int .i64 sh, .int .i64 sw, .int .i64 tp, .int .i64 lf, .int .i64 bt, .int .i64 rt, .slice wa lw wc, .slice ba lb bc, .int .i64 sm, .int .i64 ss, .int .i64 um, .int .i64 us, .int .i64 z, .int .i64 p, .int .i64 lo, .int .i64 hi]] W fun e w' => e = .returned (.bool false) ∧ Below W.heap.size W w' := by
  have q1 := eq8 48 rfl kh kw sh sw tp lf bt rt 0 0 0 0 0 0 0 0 false (decide_eq_false (by omega))
  clear hn
  go_enter Try.func51, Try.ntmps51
  go_wp2_with fail
  refine (uses_8 _).mono ?_
  rintro e w1 ⟨rfl, hb'⟩
  have s1 := (St.start W).new.call hb'
  clear hb'
  try simp only [World.size_setCell] at s1
  try simp only [World.size_alloc] at s1
  obtain ⟨c1, f1, zw1_1, -⟩ := s1.rules
  go_upto_region 2 with fail
  have s2 := s1.new (c := #[.bool false, .bool false, .bool false, .bool false, .bool false, .bool false, .bool false, .bool false, .bool false]) (t := 91)
  clear c1 f1
  obtain ⟨c1, g1, c2, g2, -⟩ := rulesQ_st s2
  have hne := Nonempty.intro (Wd.mk _ s2)
  refine region_held s2 (by kernel_rfl) (lex_of ozLex (by kernel_rfl)) ?_
  simp only [List.append]
  repeat (go_big_quiet_step ((go_at_call 55; exact held_of (nopad_any _ _ _ _ _ _ _ _ _))))
  refine wpQuiet_nil ?_
  intro _ hw'
  obtain ⟨nq, rfl⟩ := hw'
  go_wp2
  go_ret
  exact ⟨rfl, nq.h.below⟩
set_option maxHeartbeats 4000000 in
theorem oz_8_3 (a sm ss um us z p lo hi : Int) (wa : Option Addr) (lw lb wc : Nat) (ba : Option Addr) (bc : Nat) (W : World) (hn : ¬ (lw = 0)) :
    Calls Try.prog 51 #[.agg #[.int .i64 8, .int .i64 a, .int .i64 0, .int .i64 0, .int .i64 0, .int .i64 0, .int .i64 0, .int .i64 0, .int .i64 0, .int .i64 0, .int .i64 0, .int .i64 0, .slice wa lw wc, .slice ba lb bc, .int .i64 sm, .int .i64 ss, .int .i64 um, .int .i64 us, .int .i64 z, .int .i64 p, .int .i64 lo, .int .i64 hi]] W fun e w' => e = .returned (.bool false) ∧ Below W.heap.size W w' := by
  have q1 : ((lw : Int) == 0) = false := by simp; omega
  go_enter Try.func51, Try.ntmps51
  go_wp2_with fail
  refine (uses_8 _).mono ?_
  rintro e w1 ⟨rfl, hb'⟩
  have s1 := (St.start W).new.call hb'
  clear hb'
  try simp only [World.size_setCell] at s1
  try simp only [World.size_alloc] at s1
  obtain ⟨c1, f1, zw1_1, -⟩ := s1.rules
  go_upto_region 2 with fail
  have s2 := s1.new (c := #[.bool false, .bool false, .bool false, .bool false, .bool false, .bool false, .bool false, .bool false, .bool false]) (t := 91)
  clear c1 f1
  obtain ⟨c1, g1, c2, g2, -⟩ := rulesQ_st s2
  have hne := Nonempty.intro (Wd.mk _ s2)
  refine region_held s2 (by kernel_rfl) (lex_of ozLex (by kernel_rfl)) ?_
  simp only [List.append]
  repeat (go_big_quiet_step ((go_at_call 55; exact held_of (nopad_any _ _ _ _ _ _ _ _ _))))
  refine wpQuiet_nil ?_
  intro _ hw'
  obtain ⟨nq, rfl⟩ := hw'
  go_wp2
  go_ret
  exact ⟨rfl, nq.h.below⟩
set_option maxHeartbeats 4000000 in
theorem oz_8_4 (a sm ss um us z p lo hi : Int) (wa : Option Addr) (lb wc : Nat) (ba : Option Addr) (bc : Nat) (W : World) (hn : ¬ (lb = 0)) :
    Calls Try.prog 51 #[.agg #[.int .i64 8, .int .i64 a, .int .i64 0, .int .i64 0, .int .i64 0, .int .i64 0, .int .i64 0, .int .i64 0, .int .i64 0, .int .i64 0, .int .i64 0, .int .i64 0, .slice wa 0 wc, .slice ba lb bc, .int .i64 sm, .int .i64 ss, .int .i64 um, .int .i64 us, .int .i64 z, .int .i64 p, .int .i64 lo, .int .i64 hi]] W fun e w' => e = .returned (.bool false) ∧ Below W.heap.size W w' := by
  have q1 : ((lb : Int) == 0) = false := by simp; omega
  go_enter Try.func51, Try.ntmps51
  go_wp2_with fail
  refine (uses_8 _).mono ?_
  rintro e w1 ⟨rfl, hb'⟩
  have s1 := (St.start W).new.call hb'
  clear hb'
  try simp only [World.size_setCell] at s1
  try simp only [World.size_alloc] at s1
  obtain ⟨c1, f1, zw1_1, -⟩ := s1.rules
  go_upto_region 2 with fail
  have s2 := s1.new (c := #[.bool false, .bool false, .bool false, .bool false, .bool false, .bool false, .bool false, .bool false, .bool false]) (t := 91)
  clear c1 f1
  obtain ⟨c1, g1, c2, g2, -⟩ := rulesQ_st s2
  have hne := Nonempty.intro (Wd.mk _ s2)
  refine region_held s2 (by kernel_rfl) (lex_of ozLex (by kernel_rfl)) ?_
  simp only [List.append]
  repeat (go_big_quiet_step ((go_at_call 55; exact held_of (nopad_any _ _ _ _ _ _ _ _ _))))
  refine wpQuiet_nil ?_
  intro _ hw'
  obtain ⟨nq, rfl⟩ := hw'
  go_wp2
  go_ret
  exact ⟨rfl, nq.h.below⟩
set_option maxHeartbeats 4000000 in
theorem oz_8_5 (a sm ss um us z p lo hi : Int) (wa : Option Addr) (wc : Nat) (ba : Option Addr) (bc : Nat) (W : World) (hn : ¬ (sm = 0 ∧ ss = 0)) :
    Calls Try.prog 51 #[.agg #[.int .i64 8, .int .i64 a, .int .i64 0, .int .i64 0, .int .i64 0, .int .i64 0, .int .i64 0, .int .i64 0, .int .i64 0, .int .i64 0, .int .i64 0, .int .i64 0, .slice wa 0 wc, .slice ba 0 bc, .int .i64 sm, .int .i64 ss, .int .i64 um, .int .i64 us, .int .i64 z, .int .i64 p, .int .i64 lo, .int .i64 hi]] W fun e w' => e = .returned (.bool false) ∧ Below W.heap.size W w' := by
  have q1 := eq2 52 rfl sm ss 0 0 false (decide_eq_false (by omega))
  clear hn
  go_enter Try.func51, Try.ntmps51
  go_wp2_with fail
  refine (uses_8 _).mono ?_
  rintro e w1 ⟨rfl, hb'⟩
  have s1 := (St.start W).new.call hb'
  clear hb'
  try simp only [World.size_setCell] at s1
  try simp only [World.size_alloc] at s1
  obtain ⟨c1, f1, zw1_1, -⟩ := s1.rules
  go_upto_region 2 with fail
  have s2 := s1.new (c := #[.bool false, .bool false, .bool false, .bool false, .bool false, .bool false, .bool false, .bool false, .bool false]) (t := 91)
  clear c1 f1
  obtain ⟨c1, g1, c2, g2, -⟩ := rulesQ_st s2
  have hne := Nonempty.intro (Wd.mk _ s2)
  refine region_held s2 (by kernel_rfl) (lex_of ozLex (by kernel_rfl)) ?_
  simp only [List.append]
  repeat (go_big_quiet_step ((go_at_call 55; exact held_of (nopad_any _ _ _ _ _ _ _ _ _))))
  refine wpQuiet_nil ?_
  intro _ hw'
  obtain ⟨nq, rfl⟩ := hw'
  go_wp2
  go_ret
  exact ⟨rfl, nq.h.below⟩
set_option maxHeartbeats 4000000 in
theorem oz_8_6 (a um us z p lo hi : Int) (wa : Option Addr) (wc : Nat) (ba : Option Addr) (bc : Nat) (W : World) (hn : ¬ (um = 0 ∧ us = 0)) :
    Calls Try.prog 51 #[.agg #[.int .i64 8, .int .i64 a, .int .i64 0, .int .i64 0, .int .i64 0, .int .i64 0, .int .i64 0, .int .i64 0, .int .i64 0, .int .i64 0, .int .i64 0, .int .i64 0, .slice wa 0 wc, .slice ba 0 bc, .int .i64 0, .int .i64 0, .int .i64 um, .int .i64 us, .int .i64 z, .int .i64 p, .int .i64 lo, .int .i64 hi]] W fun e w' => e = .returned (.bool false) ∧ Below W.heap.size W w' := by
  have q1 := eq2 52 rfl um us 0 0 false (decide_eq_false (by omega))
  clear hn
  go_enter Try.func51, Try.ntmps51
  go_wp2_with fail
  refine (uses_8 _).mono ?_
  rintro e w1 ⟨rfl, hb'⟩
  have s1 := (St.start W).new.call hb'
  clear hb'
  try simp only [World.size_setCell] at s1
  try simp only [World.size_alloc] at s1
  obtain ⟨c1, f1, zw1_1, -⟩ := s1.rules
  go_upto_region 2 with fail
  have s2 := s1.new (c := #[.bool false, .bool false, .bool false, .bool false, .bool false, .bool false, .bool false, .bool false, .bool false]) (t := 91)
  clear c1 f1
  obtain ⟨c1, g1, c2, g2, -⟩ := rulesQ_st s2
  have hne := Nonempty.intro (Wd.mk _ s2)
  refine region_held s2 (by kernel_rfl) (lex_of ozLex (by kernel_rfl)) ?_
  simp only [List.append]
  repeat (go_big_quiet_step ((go_at_call 55; exact held_of (nopad_any _ _ _ _ _ _ _ _ _))))
  refine wpQuiet_nil ?_
  intro _ hw'
  obtain ⟨nq, rfl⟩ := hw'
  go_wp2
  go_ret
  exact ⟨rfl, nq.h.below⟩
set_option maxHeartbeats 4000000 in
theorem oz_8_7 (a z p lo hi : Int) (wa : Option Addr) (wc : Nat) (ba : Option Addr) (bc : Nat) (W : World) (hn : ¬ (z = 0)) :
    Calls Try.prog 51 #[.agg #[.int .i64 8, .int .i64 a, .int .i64 0, .int .i64 0, .int .i64 0, .int .i64 0, .int .i64 0, .int .i64 0, .int .i64 0, .int .i64 0, .int .i64 0, .int .i64 0, .slice wa 0 wc, .slice ba 0 bc, .int .i64 0, .int .i64 0, .int .i64 0, .int .i64 0, .int .i64 z, .int .i64 p, .int .i64 lo, .int .i64 hi]] W fun e w' => e = .returned (.bool false) ∧ Below W.heap.size W w' := by
  have q1 : (z == 0) = false := by simp; omega
  go_enter Try.func51, Try.ntmps51
  go_wp2_with fail
  refine (uses_8 _).mono ?_
  rintro e w1 ⟨rfl, hb'⟩
  have s1 := (St.start W).new.call hb'
  clear hb'
  try simp only [World.size_setCell] at s1
  try simp only [World.size_alloc] at s1
  obtain ⟨c1, f1, zw1_1, -⟩ := s1.rules
  go_upto_region 2 with fail
  have s2 := s1.new (c := #[.bool false, .bool false, .bool false, .bool false, .bool false, .bool false, .bool false, .bool false, .bool false]) (t := 91)
  clear c1 f1
  obtain ⟨c1, g1, c2, g2, -⟩ := rulesQ_st s2
  have hne := Nonempty.intro (Wd.mk _ s2)
  refine region_held s2 (by kernel_rfl) (lex_of ozLex (by kernel_rfl)) ?_
  simp only [List.append]
  repeat (go_big_quiet_step ((go_at_call 55; exact held_of (nopad_any _ _ _ _ _ _ _ _ _))))
  refine wpQuiet_nil ?_
  intro _ hw'
  obtain ⟨nq, rfl⟩ := hw'
  go_wp2
  go_ret
  exact ⟨rfl, nq.h.below⟩
set_option maxHeartbeats 4000000 in
theorem oz_8_8 (a p lo hi : Int) (wa : Option Addr) (wc : Nat) (ba : Option Addr) (bc : Nat) (W : World) (hn : ¬ (p = 0)) :
    Calls Try.prog 51 #[.agg #[.int .i64 8, .int .i64 a, .int .i64 0, .int .i64 0, .int .i64 0, .int .i64 0, .int .i64 0, .int .i64 0, .int .i64 0, .int .i64 0, .int .i64 0, .int .i64 0, .slice wa 0 wc, .slice ba 0 bc, .int .i64 0, .int .i64 0, .int .i64 0, .int .i64 0, .int .i64 0, .int .i64 p, .int .i64 lo, .int .i64 hi]] W fun e w' => e = .returned (.bool false) ∧ Below W.heap.size W w' := by
  have q1 : (p == 0) = false := by simp; omega
  go_enter Try.func51, Try.ntmps51
  go_wp2_with fail
  refine (uses_8 _).mono ?_
  rintro e w1 ⟨rfl, hb'⟩
  have s1 := (St.start W).new.call hb'
  clear hb'
  try simp only [World.size_setCell] at s1
  try simp only [World.size_alloc] at s1
  obtain ⟨c1, f1, zw1_1, -⟩ := s1.rules
  go_upto_region 2 with fail
  have s2 := s1.new (c := #[.bool false, .bool false, .bool false, .bool false, .bool false, .bool false, .bool false, .bool false, .bool false]) (t := 91)
  clear c1 f1
  obtain ⟨c1, g1, c2, g2, -⟩ := rulesQ_st s2
  have hne := Nonempty.intro (Wd.mk _ s2)
  refine region_held s2 (by kernel_rfl) (lex_of ozLex (by kernel_rfl)) ?_
  simp only [List.append]
  repeat (go_big_quiet_step ((go_at_call 55; exact held_of (nopad_any _ _ _ _ _ _ _ _ _))))
  refine wpQuiet_nil ?_
  intro _ hw'
  obtain ⟨nq, rfl⟩ := hw'
  go_wp2
  go_ret
  exact ⟨rfl, nq.h.below⟩
set_option maxHeartbeats 4000000 in
theorem oz_8_9 (a lo hi : Int) (wa : Option Addr) (wc : Nat) (ba : Option Addr) (bc : Nat) (W : World)  :
    Calls Try.prog 51 #[.agg #[.int .i64 8, .int .i64 a, .int .i64 0, .int .i64 0, .int .i64 0, .int .i64 0, .int .i64 0, .int .i64 0, .int .i64 0, .int .i64 0, .int .i64 0, .int .i64 0, .slice wa 0 wc, .slice ba 0 bc, .int .i64 0, .int .i64 0, .int .i64 0, .int .i64 0, .int .i64 0, .int .i64 0, .int .i64 lo, .int .i64 hi]] W fun e w' => e = .returned (.bool true) ∧ Below W.heap.size W w' := by
  go_enter Try.func51, Try.ntmps51
  go_wp2_with fail
  refine (uses_8 _).mono ?_
  rintro e w1 ⟨rfl, hb'⟩
  have s1 := (St.start W).new.call hb'
  clear hb'
  try simp only [World.size_setCell] at s1
  try simp only [World.size_alloc] at s1
  obtain ⟨c1, f1, zw1_1, -⟩ := s1.rules
  go_upto_region 2 with fail
  have s2 := s1.new (c := #[.bool false, .bool false, .bool false, .bool false, .bool false, .bool false, .bool false, .bool false, .bool false]) (t := 91)
  clear c1 f1
  obtain ⟨c1, g1, c2, g2, -⟩ := rulesQ_st s2
  have hne := Nonempty.intro (Wd.mk _ s2)
  refine region_held s2 (by kernel_rfl) (lex_of ozLex (by kernel_rfl)) ?_
  simp only [List.append]
  repeat (go_big_quiet_step ((go_at_call 55; exact held_of (nopad_any _ _ _ _ _ _ _ _ _))))
  refine wpQuiet_nil ?_
  intro _ hw'
  obtain ⟨nq, rfl⟩ := hw'
  go_wp2
  go_ret
  exact ⟨rfl, nq.h.below⟩
set_option maxHeartbeats 4000000 in
theorem others_any (k a b m kh kw sh sw tp lf bt rt : Int) (wa : Option Addr) (lw wc : Nat) (ba : Option Addr) (lb bc : Nat) (sm ss um us z p lo hi : Int) (W : World) (hk : 1 ≤ k ∧ k ≤ 8) :
    Calls Try.prog 51 #[.agg #[.int .i64 k, .int .i64 a, .int .i64 b, .int .i64 m, .int .i64 kh, .int .i64 kw, .int .i64 sh, .int .i64 sw, .int .i64 tp, .int .i64 lf, .int .i64 bt, .int .i64 rt, .slice wa lw wc, .slice ba lb bc, .int .i64 sm, .int .i64 ss, .int .i64 um, .int .i64 us, .int .i64 z, .int .i64 p, .int .i64 lo, .int .i64 hi]] W fun e w' => e = .returned (.bool (ozB k b m kh kw sh sw tp lf bt rt lw lb sm ss um us z p)) ∧ Below W.heap.size W w' := by
  rcases eight hk with rfl | rfl | rfl | rfl | rfl | rfl | rfl | rfl
  · by_cases hn : b = 0
    rotate_left
    · rw [show ozB 1 b m kh kw sh sw tp lf bt rt lw lb sm ss um us z p = false from decide_eq_false (by omega)]; exact oz_1_0 a b m kh kw sh sw tp lf bt rt sm ss um us z p lo hi wa lw lb wc ba bc W hn
    subst hn
    by_cases hn : kh = 0 ∧ kw = 0 ∧ sh = 0 ∧ sw = 0 ∧ tp = 0 ∧ lf = 0 ∧ bt = 0 ∧ rt = 0
    rotate_left
    · rw [show ozB 1 0 m kh kw sh sw tp lf bt rt lw lb sm ss um us z p = false from decide_eq_false (by omega)]; exact oz_1_1 a m kh kw sh sw tp lf bt rt sm ss um us z p lo hi wa lw lb wc ba bc W hn
    obtain ⟨rfl, rfl, rfl, rfl, rfl, rfl, rfl, rfl⟩ := hn
    by_cases hn : um = 0 ∧ us = 0
    rotate_left
    · rw [show ozB 1 0 m 0 0 0 0 0 0 0 0 lw lb sm ss um us z p = false from decide_eq_false (by omega)]; exact oz_1_2 a m sm ss um us z p lo hi wa lw lb wc ba bc W hn
    obtain ⟨rfl, rfl⟩ := hn
    by_cases hn : p = 0
    rotate_left
    · rw [show ozB 1 0 m 0 0 0 0 0 0 0 0 lw lb sm ss 0 0 z p = false from decide_eq_false (by omega)]; exact oz_1_3 a m sm ss z p lo hi wa lw lb wc ba bc W hn
    subst hn
    rw [show ozB 1 0 m 0 0 0 0 0 0 0 0 lw lb sm ss 0 0 z 0 = true from decide_eq_true (by omega)]; exact oz_1_4 a m sm ss z lo hi wa lw lb wc ba bc W
  · by_cases hn : b = 0
    rotate_left
    · rw [show ozB 2 b m kh kw sh sw tp lf bt rt lw lb sm ss um us z p = false from decide_eq_false (by omega)]; exact oz_2_0 a b m kh kw sh sw tp lf bt rt sm ss um us z p lo hi wa lw lb wc ba bc W hn
    subst hn
    by_cases hn : um = 0 ∧ us = 0
    rotate_left
    · rw [show ozB 2 0 m kh kw sh sw tp lf bt rt lw lb sm ss um us z p = false from decide_eq_false (by omega)]; exact oz_2_1 a m kh kw sh sw tp lf bt rt sm ss um us z p lo hi wa lw lb wc ba bc W hn
    obtain ⟨rfl, rfl⟩ := hn
    rw [show ozB 2 0 m kh kw sh sw tp lf bt rt lw lb sm ss 0 0 z p = true from decide_eq_true (by omega)]; exact oz_2_2 a m kh kw sh sw tp lf bt rt sm ss z p lo hi wa lw lb wc ba bc W
  · by_cases hn : b = 0
    rotate_left
    · rw [show ozB 3 b m kh kw sh sw tp lf bt rt lw lb sm ss um us z p = false from decide_eq_false (by omega)]; exact oz_3_0 a b m kh kw sh sw tp lf bt rt sm ss um us z p lo hi wa lw lb wc ba bc W hn
    subst hn
    by_cases hn : m = 0
    rotate_left
    · rw [show ozB 3 0 m kh kw sh sw tp lf bt rt lw lb sm ss um us z p = false from decide_eq_false (by omega)]; exact oz_3_1 a m kh kw sh sw tp lf bt rt sm ss um us z p lo hi wa lw lb wc ba bc W hn
    subst hn
    by_cases hn : um = 0 ∧ us = 0
    rotate_left
    · rw [show ozB 3 0 0 kh kw sh sw tp lf bt rt lw lb sm ss um us z p = false from decide_eq_false (by omega)]; exact oz_3_2 a kh kw sh sw tp lf bt rt sm ss um us z p lo hi wa lw lb wc ba bc W hn
    obtain ⟨rfl, rfl⟩ := hn
    rw [show ozB 3 0 0 kh kw sh sw tp lf bt rt lw lb sm ss 0 0 z p = true from decide_eq_true (by omega)]; exact oz_3_3 a kh kw sh sw tp lf bt rt sm ss z p lo hi wa lw lb wc ba bc W
  · by_cases hn : b = 0
    rotate_left
    · rw [show ozB 4 b m kh kw sh sw tp lf bt rt lw lb sm ss um us z p = false from decide_eq_false (by omega)]; exact oz_4_0 a b m kh kw sh sw tp lf bt rt sm ss um us z p lo hi wa lw lb wc ba bc W hn
    subst hn
    by_cases hn : m = 0
    rotate_left
    · rw [show ozB 4 0 m kh kw sh sw tp lf bt rt lw lb sm ss um us z p = false from decide_eq_false (by omega)]; exact oz_4_1 a m kh kw sh sw tp lf bt rt sm ss um us z p lo hi wa lw lb wc ba bc W hn
    subst hn
    by_cases hn : tp = 0 ∧ lf = 0 ∧ bt = 0 ∧ rt = 0
    rotate_left
    · rw [show ozB 4 0 0 kh kw sh sw tp lf bt rt lw lb sm ss um us z p = false from decide_eq_false (by omega)]; exact oz_4_2 a kh kw sh sw tp lf bt rt sm ss um us z p lo hi wa lw lb wc ba bc W hn
    obtain ⟨rfl, rfl, rfl, rfl⟩ := hn
    by_cases hn : lw = 0
    rotate_left
    · rw [show ozB 4 0 0 kh kw sh sw 0 0 0 0 lw lb sm ss um us z p = false from decide_eq_false (by omega)]; exact oz_4_3 a kh kw sh sw sm ss um us z p lo hi wa lw lb wc ba bc W hn
    subst hn
    by_cases hn : lb = 0
    rotate_left
    · rw [show ozB 4 0 0 kh kw sh sw 0 0 0 0 0 lb sm ss um us z p = false from decide_eq_false (by omega)]; exact oz_4_4 a kh kw sh sw sm ss um us z p lo hi wa lb wc ba bc W hn
    subst hn
    by_cases hn : sm = 0 ∧ ss = 0
    rotate_left
    · rw [show ozB 4 0 0 kh kw sh sw 0 0 0 0 0 0 sm ss um us z p = false from decide_eq_false (by omega)]; exact oz_4_5 a kh kw sh sw sm ss um us z p lo hi wa wc ba bc W hn
    obtain ⟨rfl, rfl⟩ := hn
    by_cases hn : um = 0 ∧ us = 0
    rotate_left
    · rw [show ozB 4 0 0 kh kw sh sw 0 0 0 0 0 0 0 0 um us z p = false from decide_eq_false (by omega)]; exact oz_4_6 a kh kw sh sw um us z p lo hi wa wc ba bc W hn
    obtain ⟨rfl, rfl⟩ := hn
    by_cases hn : z = 0
    rotate_left
    · rw [show ozB 4 0 0 kh kw sh sw 0 0 0 0 0 0 0 0 0 0 z p = false from decide_eq_false (by omega)]; exact oz_4_7 a kh kw sh sw z p lo hi wa wc ba bc W hn
    subst hn
    by_cases hn : p = 0
    rotate_left
    · rw [show ozB 4 0 0 kh kw sh sw 0 0 0 0 0 0 0 0 0 0 0 p = false from decide_eq_false (by omega)]; exact oz_4_8 a kh kw sh sw p lo hi wa wc ba bc W hn
    subst hn
    rw [show ozB 4 0 0 kh kw sh sw 0 0 0 0 0 0 0 0 0 0 0 0 = true from decide_eq_true (by omega)]; exact oz_4_9 a kh kw sh sw lo hi wa wc ba bc W
  · by_cases hn : b = 0
    rotate_left
    · rw [show ozB 5 b m kh kw sh sw tp lf bt rt lw lb sm ss um us z p = false from decide_eq_false (by omega)]; exact oz_5_0 a b m kh kw sh sw tp lf bt rt sm ss um us z p lo hi wa lw lb wc ba bc W hn
    subst hn
    by_cases hn : m = 0
    rotate_left
    · rw [show ozB 5 0 m kh kw sh sw tp lf bt rt lw lb sm ss um us z p = false from decide_eq_false (by omega)]; exact oz_5_1 a m kh kw sh sw tp lf bt rt sm ss um us z p lo hi wa lw lb wc ba bc W hn
    subst hn
    by_cases hn : tp = 0 ∧ lf = 0 ∧ bt = 0 ∧ rt = 0
    rotate_left
    · rw [show ozB 5 0 0 kh kw sh sw tp lf bt rt lw lb sm ss um us z p = false from decide_eq_false (by omega)]; exact oz_5_2 a kh kw sh sw tp lf bt rt sm ss um us z p lo hi wa lw lb wc ba bc W hn
    obtain ⟨rfl, rfl, rfl, rfl⟩ := hn
    by_cases hn : lw = 0
    rotate_left
    · rw [show ozB 5 0 0 kh kw sh sw 0 0 0 0 lw lb sm ss um us z p = false from decide_eq_false (by omega)]; exact oz_5_3 a kh kw sh sw sm ss um us z p lo hi wa lw lb wc ba bc W hn
    subst hn
    by_cases hn : lb = 0
    rotate_left
    · rw [show ozB 5 0 0 kh kw sh sw 0 0 0 0 0 lb sm ss um us z p = false from decide_eq_false (by omega)]; exact oz_5_4 a kh kw sh sw sm ss um us z p lo hi wa lb wc ba bc W hn
    subst hn
    by_cases hn : sm = 0 ∧ ss = 0
    rotate_left
    · rw [show ozB 5 0 0 kh kw sh sw 0 0 0 0 0 0 sm ss um us z p = false from decide_eq_false (by omega)]; exact oz_5_5 a kh kw sh sw sm ss um us z p lo hi wa wc ba bc W hn
    obtain ⟨rfl, rfl⟩ := hn
    by_cases hn : um = 0 ∧ us = 0
    rotate_left
    · rw [show ozB 5 0 0 kh kw sh sw 0 0 0 0 0 0 0 0 um us z p = false from decide_eq_false (by omega)]; exact oz_5_6 a kh kw sh sw um us z p lo hi wa wc ba bc W hn
    obtain ⟨rfl, rfl⟩ := hn
    by_cases hn : z = 0
    rotate_left
    · rw [show ozB 5 0 0 kh kw sh sw 0 0 0 0 0 0 0 0 0 0 z p = false from decide_eq_false (by omega)]; exact oz_5_7 a kh kw sh sw z p lo hi wa wc ba bc W hn
    subst hn
    by_cases hn : p = 0
    rotate_left
    · rw [show ozB 5 0 0 kh kw sh sw 0 0 0 0 0 0 0 0 0 0 0 p = false from decide_eq_false (by omega)]; exact oz_5_8 a kh kw sh sw p lo hi wa wc ba bc W hn
    subst hn
    rw [show ozB 5 0 0 kh kw sh sw 0 0 0 0 0 0 0 0 0 0 0 0 = true from decide_eq_true (by omega)]; exact oz_5_9 a kh kw sh sw lo hi wa wc ba bc W
  · by_cases hn : m = 0
    rotate_left
    · rw [show ozB 6 b m kh kw sh sw tp lf bt rt lw lb sm ss um us z p = false from decide_eq_false (by omega)]; exact oz_6_0 a b m kh kw sh sw tp lf bt rt sm ss um us z p lo hi wa lw lb wc ba bc W hn
    subst hn
    by_cases hn : kh = 0 ∧ kw = 0 ∧ sh = 0 ∧ sw = 0 ∧ tp = 0 ∧ lf = 0 ∧ bt = 0 ∧ rt = 0
    rotate_left
    · rw [show ozB 6 b 0 kh kw sh sw tp lf bt rt lw lb sm ss um us z p = false from decide_eq_false (by omega)]; exact oz_6_1 a b kh kw sh sw tp lf bt rt sm ss um us z p lo hi wa lw lb wc ba bc W hn
    obtain ⟨rfl, rfl, rfl, rfl, rfl, rfl, rfl, rfl⟩ := hn
    by_cases hn : lw = 0
    rotate_left
    · rw [show ozB 6 b 0 0 0 0 0 0 0 0 0 lw lb sm ss um us z p = false from decide_eq_false (by omega)]; exact oz_6_2 a b sm ss um us z p lo hi wa lw lb wc ba bc W hn
    subst hn
    by_cases hn : lb = 0
    rotate_left
    · rw [show ozB 6 b 0 0 0 0 0 0 0 0 0 0 lb sm ss um us z p = false from decide_eq_false (by omega)]; exact oz_6_3 a b sm ss um us z p lo hi wa lb wc ba bc W hn
    subst hn
    by_cases hn : p = 0
    rotate_left
    · rw [show ozB 6 b 0 0 0 0 0 0 0 0 0 0 0 sm ss um us z p = false from decide_eq_false (by omega)]; exact oz_6_4 a b sm ss um us z p lo hi wa wc ba bc W hn
    subst hn
    rw [show ozB 6 b 0 0 0 0 0 0 0 0 0 0 0 sm ss um us z 0 = true from decide_eq_true (by omega)]; exact oz_6_5 a b sm ss um us z lo hi wa wc ba bc W
  · by_cases hn : b = 0
    rotate_left
    · rw [show ozB 7 b m kh kw sh sw tp lf bt rt lw lb sm ss um us z p = false from decide_eq_false (by omega)]; exact oz_7_0 a b m kh kw sh sw tp lf bt rt sm ss um us z p lo hi wa lw lb wc ba bc W hn
    subst hn
    by_cases hn : m = 0
    rotate_left
    · rw [show ozB 7 0 m kh kw sh sw tp lf bt rt lw lb sm ss um us z p = false from decide_eq_false (by omega)]; exact oz_7_1 a m kh kw sh sw tp lf bt rt sm ss um us z p lo hi wa lw lb wc ba bc W hn
    subst hn
    by_cases hn : kh = 0 ∧ kw = 0 ∧ sh = 0 ∧ sw = 0 ∧ tp = 0 ∧ lf = 0 ∧ bt = 0 ∧ rt = 0
    rotate_left
    · rw [show ozB 7 0 0 kh kw sh sw tp lf bt rt lw lb sm ss um us z p = false from decide_eq_false (by omega)]; exact oz_7_2 a kh kw sh sw tp lf bt rt sm ss um us z p lo hi wa lw lb wc ba bc W hn
    obtain ⟨rfl, rfl, rfl, rfl, rfl, rfl, rfl, rfl⟩ := hn
    by_cases hn : lw = 0
    rotate_left
    · rw [show ozB 7 0 0 0 0 0 0 0 0 0 0 lw lb sm ss um us z p = false from decide_eq_false (by omega)]; exact oz_7_3 a sm ss um us z p lo hi wa lw lb wc ba bc W hn
    subst hn
    by_cases hn : lb = 0
    rotate_left
    · rw [show ozB 7 0 0 0 0 0 0 0 0 0 0 0 lb sm ss um us z p = false from decide_eq_false (by omega)]; exact oz_7_4 a sm ss um us z p lo hi wa lb wc ba bc W hn
    subst hn
    by_cases hn : um = 0 ∧ us = 0
    rotate_left
    · rw [show ozB 7 0 0 0 0 0 0 0 0 0 0 0 0 sm ss um us z p = false from decide_eq_false (by omega)]; exact oz_7_5 a sm ss um us z p lo hi wa wc ba bc W hn
    obtain ⟨rfl, rfl⟩ := hn
    by_cases hn : p = 0
    rotate_left
    · rw [show ozB 7 0 0 0 0 0 0 0 0 0 0 0 0 sm ss 0 0 z p = false from decide_eq_false (by omega)]; exact oz_7_6 a sm ss z p lo hi wa wc ba bc W hn
    subst hn
    rw [show ozB 7 0 0 0 0 0 0 0 0 0 0 0 0 sm ss 0 0 z 0 = true from decide_eq_true (by omega)]; exact oz_7_7 a sm ss z lo hi wa wc ba bc W
  · by_cases hn : b = 0
    rotate_left
    · rw [show ozB 8 b m kh kw sh sw tp lf bt rt lw lb sm ss um us z p = false from decide_eq_false (by omega)]; exact oz_8_0 a b m kh kw sh sw tp lf bt rt sm ss um us z p lo hi wa lw lb wc ba bc W hn
    subst hn
    by_cases hn : m = 0
    rotate_left
    · rw [show ozB 8 0 m kh kw sh sw tp lf bt rt lw lb sm ss um us z p = false from decide_eq_false (by omega)]; exact oz_8_1 a m kh kw sh sw tp lf bt rt sm ss um us z p lo hi wa lw lb wc ba bc W hn
    subst hn
    by_cases hn : kh = 0 ∧ kw = 0 ∧ sh = 0 ∧ sw = 0 ∧ tp = 0 ∧ lf = 0 ∧ bt = 0 ∧ rt = 0
    rotate_left
    · rw [show ozB 8 0 0 kh kw sh sw tp lf bt rt lw lb sm ss um us z p = false from decide_eq_false (by omega)]; exact oz_8_2 a kh kw sh sw tp lf bt rt sm ss um us z p lo hi wa lw lb wc ba bc W hn
    obtain ⟨rfl, rfl, rfl, rfl, rfl, rfl, rfl, rfl⟩ := hn
    by_cases hn : lw = 0
    rotate_left
    · rw [show ozB 8 0 0 0 0 0 0 0 0 0 0 lw lb sm ss um us z p = false from decide_eq_false (by omega)]; exact oz_8_3 a sm ss um us z p lo hi wa lw lb wc ba bc W hn
    subst hn
    by_cases hn : lb = 0
    rotate_left
    · rw [show ozB 8 0 0 0 0 0 0 0 0 0 0 0 lb sm ss um us z p = false from decide_eq_false (by omega)]; exact oz_8_4 a sm ss um us z p lo hi wa lb wc ba bc W hn
    subst hn
    by_cases hn : sm = 0 ∧ ss = 0
    rotate_left
    · rw [show ozB 8 0 0 0 0 0 0 0 0 0 0 0 0 sm ss um us z p = false from decide_eq_false (by omega)]; exact oz_8_5 a sm ss um us z p lo hi wa wc ba bc W hn
    obtain ⟨rfl, rfl⟩ := hn
    by_cases hn : um = 0 ∧ us = 0
    rotate_left
    · rw [show ozB 8 0 0 0 0 0 0 0 0 0 0 0 0 0 0 um us z p = false from decide_eq_false (by omega)]; exact oz_8_6 a um us z p lo hi wa wc ba bc W hn
    obtain ⟨rfl, rfl⟩ := hn
    by_cases hn : z = 0
    rotate_left
    · rw [show ozB 8 0 0 0 0 0 0 0 0 0 0 0 0 0 0 0 0 z p = false from decide_eq_false (by omega)]; exact oz_8_7 a z p lo hi wa wc ba bc W hn
    subst hn
    by_cases hn : p = 0
    rotate_left
    · rw [show ozB 8 0 0 0 0 0 0 0 0 0 0 0 0 0 0 0 0 0 p = false from decide_eq_false (by omega)]; exact oz_8_8 a p lo hi wa wc ba bc W hn
    subst hn
    rw [show ozB 8 0 0 0 0 0 0 0 0 0 0 0 0 0 0 0 0 0 0 = true from decide_eq_true (by omega)]; exact oz_8_9 a lo hi wa wc ba bc W
end Go.Proofs.Ytfgbolekenlheaa
