/- The walk of LaneSafe. -/
import Derived.Test.YtgimnoehagfhhaaLanT
namespace Go.Proofs.Ytgimnoehagfhhaa
open Go.ChangeShapes Go.WideShapes Go.ChangeAt Go.RowKit
set_option linter.unusedVariables false
set_option maxRecDepth 100000 in
set_option maxHeartbeats 4000000 in
theorem laneSafe_walk (wa : Option Addr) (n cw : Nat) (zs : List Int) (xa : Option Addr) (m cx : Nat) (ys : List Int) (wd dp bi : Int) (W : World) (hw : IRow .i16 W wa n cw zs) (hr : n * 2 ≤ 140737488351232) (hx : IRow .i8 W xa m cx ys) (_r : m * 1 ≤ 140737488351232)
    (_w2 : (Lit.int .i64 wd).wf = true) (_w3 : (Lit.int .i64 dp).wf = true) (w4 : (Lit.int .i32 bi).wf = true) :
    Calls Try.prog 8 #[.agg #[.slice wa n cw, .slice xa m cx, .int .i64 wd, .int .i64 dp, .int .i32 bi]] W fun e w' => e = .returned (.bool true) ∧ Below W.heap.size W w' := by
  have hbi := wf_i32 w4
  have hcw := hw.2.1
  have hmw := hw.2.2.1
  have hcx := hx.2.1
  have hmx := hx.2.2.1
  unfold maxLen at hmw hmx
  obtain ⟨E, hE⟩ : ∃ E, rfE n m wd dp = E := ⟨_, rfl⟩
  by_cases h0 : E = 0
  · subst h0
    obtain rfl := rfE_len hE
    obtain ⟨h1, h2, h3⟩ := rfE_in hE
    by_cases h32 : wd = 32
    · subst h32
      exact safe_32 wa n cw zs xa cx ys dp bi W hw hr hx hbi hE
    · obtain rfl : wd = 16 := by omega
      obtain ⟨d, rfl⟩ : ∃ d : Nat, dp = (d : Int) := ⟨dp.toNat, by omega⟩
      exact safe_16 wa n cw zs xa cx ys d bi W hw hr hx hbi hE
  · have s1 := (St.start W).new (c := #[.slice wa n cw, .slice xa m cx, .int .i64 wd, .int .i64 dp, .int .i32 bi]) (t := 42)
    have HD : Hid (∀ w, _) := fun w => ldot_bad wa xa n m cw cx wd dp bi E w (by unfold maxLen; omega) (by unfold maxLen; omega) hE h0
    have q1 : (E != 0) = true := by simp [h0]
    go_enter Try.func8, Try.ntmps8
    go_wp2_with fail
    refine (fixed_any _).mono ?_
    rintro e w2 ⟨rfl, b2⟩
    have s2 := s1.call b2
    clear s1 b2
    obtain ⟨c1, f1, z1, -⟩ := s2.rules
    go_wp2_with fail
    refine (HD.out _).mono ?_
    rintro e w4 ⟨rfl, b4⟩
    have s4 := (s2.call b4).new (c := #[.int .i64 0, .int .i64 0, .int .i64 0, .int .i64 0, .int .i64 0, .int .i64 0, .int .i64 0, .int .i64 0, .int .i64 0]) (t := 48)
    clear c1 f1 z1 s2 b4 hE HD
    simp only [tr0]
    obtain ⟨c1, f1, z1, c2, f2, z2, -⟩ := s4.rules
    have HS : Hid (Below W.heap.size W _) := s4.below
    clear s4
    go_wp2
    go_ret
    exact ⟨rfl, HS.out⟩
end Go.Proofs.Ytgimnoehagfhhaa
