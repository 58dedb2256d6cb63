/- The walk of BufConverts. -/
import Derived.Test.YtedbcnkgembhbaaBufG
import Derived.Test.YtedbcnkgembhbaaBufH
import Derived.Test.YtedbcnkgembhbaaBufI
namespace Go.Proofs.Ytedbcnkgembhbaa
open Go.ChangeShapes Go.WideShapes Go.ChangeAt Go.RowKit
theorem wf_up {zs : List Int} (h : Wf .i16 zs) : Wf .i64 zs := fun z hz => wf64 (by simp) (h z hz)
set_option maxHeartbeats 2000000 in
theorem converts_is (B b : Nat) (h u c : Int) (zs : List Int) (a : Option Addr) (n cap : Nat) (w : World) (f : Bf .i16 51 95 w B b h u c zs) (r : IRow .i64 w a n cap zs) (hs : n ≤ 1048576) :
    Calls Try.prog 19 #[.pointer (some ⟨B, 0, none⟩), .agg #[.int .i64 h, .int .i64 u, .int .i64 c, .slice a n cap]] w fun e w' => e = .returned (.bool true) ∧ Below w.heap.size w w' := by
  have hl : Hid (zs.length = n) := r.1
  have hfr : Hid (∀ w', Below w.heap.size w w' → Bf .i16 51 95 w' B b h u c zs ∧ IRow .i64 w' a n cap zs) := fun w' q => ⟨f.below q, r.below q⟩
  have hwf := f.wf
  clear f r
  cases hB : wfB zs with
  | true =>
    have h8 := wfB_yes hB
    go_enter Try.func19, Try.ntmps19
    go_wp2_with fail
    refine (conv_i16_i8 B b h u c zs _ (hfr.out _ (bal _ _)).1 (by have := hl.out; omega) h8).mono ?_
    rintro e w1 ⟨X, x, rfl, hX, hx, fx, b1⟩
    have s1 := (St.start w).new.call b1
    obtain ⟨c1, f1, z1, -⟩ := s1.rules
    clear b1 hX hx
    go_wp2_with fail
    refine (conv_i16_i64 B b h u c zs _ (hfr.out _ s1.below).1 (by have := hl.out; omega) (wf_up hwf)).mono ?_
    rintro e w2 ⟨Y, y, rfl, hY, hy, fy, b2⟩
    have s2 := s1.call b2
    have fx2 := fx.below b2
    clear c1 f1 z1 b2 s1 fx hY hy
    obtain ⟨c1, f1, z1, -⟩ := s2.rules
    go_wp2_with fail
    refine (is_i64 Y y h u c zs a n cap _ fy (hfr.out _ s2.below).2 hs).mono ?_
    rintro e w3 ⟨rfl, b3⟩
    have s3 := s2.call b3
    have fx3 := fx2.below b3
    clear c1 f1 z1 b3 s2 fx2 fy
    obtain ⟨c1, f1, z1, -⟩ := s3.rules
    have hF := rfits_is h u c a n cap zs w3 (hfr.out _ s3.below).2
    rw [hB] at hF
    go_wp2_with fail
    refine hF.mono ?_
    rintro e w4 ⟨rfl, b4⟩
    have s4 := s3.call b4
    have fx4 := fx3.below b4
    clear c1 f1 z1 b4 s3 fx3 hF
    obtain ⟨c1, f1, z1, -⟩ := s4.rules
    go_wp2_with fail
    refine (is_i8 X x h u c zs a n cap _ fx4 (hfr.out _ s4.below).2 hs).mono ?_
    rintro e w5 ⟨rfl, b5⟩
    have s5 : Hid (Below w.heap.size w w5) := (s4.call b5).below
    clear c1 f1 z1 b5 s4 fx4
    go_wp2
    go_ret
    exact ⟨rfl, s5.out⟩
  | false =>
    have h8 := wfB_no hB
    go_enter Try.func19, Try.ntmps19
    go_wp2_with fail
    refine (over_i16_i8 B b h u c zs _ (hfr.out _ (bal _ _)).1 (by have := hl.out; omega) h8).mono ?_
    rintro e w1 ⟨rfl, b1⟩
    have s1 := (St.start w).new.call b1
    obtain ⟨c1, f1, z1, -⟩ := s1.rules
    clear b1
    go_wp2_with fail
    refine (conv_i16_i64 B b h u c zs _ (hfr.out _ s1.below).1 (by have := hl.out; omega) (wf_up hwf)).mono ?_
    rintro e w2 ⟨Y, y, rfl, hY, hy, fy, b2⟩
    have s2 := s1.call b2
    clear c1 f1 z1 b2 s1 hY hy
    obtain ⟨c1, f1, z1, -⟩ := s2.rules
    go_wp2_with fail
    refine (is_i64 Y y h u c zs a n cap _ fy (hfr.out _ s2.below).2 hs).mono ?_
    rintro e w3 ⟨rfl, b3⟩
    have s3 := s2.call b3
    clear c1 f1 z1 b3 s2 fy
    obtain ⟨c1, f1, z1, -⟩ := s3.rules
    have hF := rfits_is h u c a n cap zs w3 (hfr.out _ s3.below).2
    rw [hB] at hF
    go_wp2_with fail
    refine hF.mono ?_
    rintro e w4 ⟨rfl, b4⟩
    have s4 : Hid (Below w.heap.size w w4) := (s3.call b4).below
    clear c1 f1 z1 b4 s3 hF
    go_wp2
    go_ret
    exact ⟨rfl, s4.out⟩
end Go.Proofs.Ytedbcnkgembhbaa
