/- The reader of package pack: numbers, or a fault. -/
import Derived.Test.YthagdpiocmcbmaaPckP
import Derived.Test.YthagdpiocmcbmaaBufA
import Derived.WalkSmall
namespace Go.Proofs.Ythagdpiocmcbmaa
open Wr
open Go.ChangeShapes Go.WideShapes Go.ChangeAt Go.RowKit
set_option linter.unusedVariables false
/-- Given up with a fault. -/
def fpan (x t : Int) : Ending := .panicked [{ v := .iface 31 (.agg #[.int .i64 x, .int .i64 t, .int .i64 0]), recovered := false }]
/-- A reader of package pack: what is left, and the op within which it is. -/
def PRc (w : World) (Rb B : Nat) (t : Int) : Prop := w.heap[Rb]? = some (.cells #[.pointer (some ⟨B, 0, none⟩), .int .i64 t] 75 (0, 0))
def PR (w : World) (Rb B : Nat) (zs : List Int) (t : Int) : Prop := PRc w Rb B t ∧ Rd w B 102 zs 0 ∧ Rb < B
theorem PR.ne {w : World} {Rb B : Nat} {zs : List Int} {t : Int} (h : PR w Rb B zs t) : Rb ≠ B := by have := h.2.2; omega
theorem PR.lt {w : World} {Rb B : Nat} {zs : List Int} {t : Int} (h : PR w Rb B zs t) : Rb < w.heap.size := lt_of_heap h.1
theorem PRc.kept {w w' : World} {Rb B : Nat} {t : Int} (h : PRc w Rb B t) (hne : Rb ≠ B) (k : Wr.Kept [B] w w') : PRc w' Rb B t := (k.2.2.2.2 _ (lt_of_heap h) (by simpa using hne)).trans h
theorem PR.byt {w : World} {Rb B : Nat} {zs : List Int} {t : Int} (h : PR w Rb B zs t) : Byt zs := h.2.1.byt
theorem PR.ltB {w : World} {Rb B : Nat} {zs : List Int} {t : Int} (h : PR w Rb B zs t) : B < w.heap.size := h.2.1.lt
/-- What lies behind a reader may turn. -/
theorem PR.keep {w w' : World} {Rb B : Nat} {zs : List Int} {t : Int} (h : PR w Rb B zs t) (k : Below (B + 1) w w') : PR w' Rb B zs t := by
  obtain ⟨h1, ⟨a, len, cap, h2, h3, h4⟩, h5⟩ := h
  refine ⟨(k.block _ (by omega)).trans h1, ⟨a, len, cap, (k.block _ (by omega)).trans h2, ⟨h3.1, h3.2.1, h3.2.2.1, h3.2.2.2.1, h3.2.2.2.2.1, fun x hx i hi => ?_⟩, h4⟩, h5⟩
  have hc := h3.2.2.2.2.2 x hx i hi
  have hb : (x.add i).block = x.block := by unfold Addr.add; split <;> rfl
  have := h4 x hx
  exact (k.cell (p := x.add i) (by omega)).trans hc
theorem PR.below {w w' : World} {Rb B : Nat} {zs : List Int} {t : Int} (h : PR w Rb B zs t) (k : Below w.heap.size w w') : PR w' Rb B zs t := h.keep (k.mono h.ltB)
theorem PR.al {w : World} {Rb B : Nat} {zs : List Int} {t : Int} (h : PR w Rb B zs t) (o : Obj) : PR (w.alloc o) Rb B zs t := h.below (bal _ _)
theorem giveup_any (Rb B : Nat) (t e : Int) (w : World) (h : PRc w Rb B t) :
    Calls Try.prog 30 #[(.pointer (some ⟨Rb, 0, none⟩)), .int .i64 e] w fun r w' => r = fpan e t ∧ w' = w := by
  obtain ⟨c1, f1, z1⟩ := cells_at h
  clear h
  go_enter Try.func30, Try.ntmps30
  go_wp2
  exact ⟨rfl, rfl, rfl⟩
theorem ask_ok (Rb : Nat) (w : World) :
    Calls Try.prog 34 #[(.pointer (some ⟨Rb, 0, none⟩)), .int .i64 0] w fun r w' => r = .returned (.tuple #[]) ∧ w' = w := by
  go_enter Try.func34, Try.ntmps34
  go_wp2
  go_end0
  exact ⟨rfl, rfl⟩
theorem ask_bad (Rb B : Nat) (t e : Int) (w : World) (h : PRc w Rb B t) (he : e ≠ 0) :
    Calls Try.prog 34 #[(.pointer (some ⟨Rb, 0, none⟩)), .int .i64 e] w fun r w' => r = fpan e t ∧ w' = w := by
  go_enter Try.func34, Try.ntmps34
  go_wp2_with fail
  refine (giveup_any Rb B t e _ h).mono ?_
  rintro r w1 ⟨rfl, rfl⟩
  exact ⟨rfl, rfl, rfl⟩
theorem frR_0 (zs : List Int) : frR zs 0 = getR zs := if_pos rfl
set_option maxHeartbeats 1000000 in
theorem runsigned_any (Rb B : Nat) (zs : List Int) (t : Int) (w : World) (h : PR w Rb B zs t) :
    Calls Try.prog 51 #[(.pointer (some ⟨Rb, 0, none⟩))] w fun r w' => (∃ x, pU t zs = .inl x ∧ r = fpan x.1 x.2 ∧ Wr.Kept [B] w w') ∨ ∃ v rs, pU t zs = .inr (v, rs) ∧ r = .returned (.int .i64 v) ∧ PR w' Rb B rs t ∧ Wr.Kept [B] w w' := by
  have hu := rU_is B zs 0 w h.2.1
  have hout := frR_out h.byt 0
  rw [frR_0] at hu hout
  obtain ⟨c1, f1, z1⟩ := cells_at h.1
  have hc : Hid (PRc w Rb B t) := h.1
  have hne : Hid (Rb ≠ B) := h.ne
  have hlB : Hid (Rb < B) := h.2.2
  obtain ⟨x, n, e, hg⟩ : ∃ x n e, getR zs = (x, n, e) := ⟨_, _, _, rfl⟩
  rw [hg] at hu hout
  simp only at hout hu
  by_cases he : e = 0
  · subst he
    have hx : 0 ≤ x ∧ x < 18446744073709551616 := by rcases hout with ⟨-, -, a, b, -⟩ | ⟨a, -⟩; exact ⟨a, b⟩; exact absurd rfl a
    obtain ⟨hx0, hx1⟩ := hx
    rw [show aX (x, n, 0) = x from if_pos rfl, show aZ (x, n, 0) zs = zs.drop n from if_pos rfl] at hu
    have Hu : Hid _ := hu
    by_cases hb : 2147483647 < x
    · have hP : Hid (pU t zs = .inl (41, t)) := by unfold Hid pU; rw [hg]; simp [hb]
      clear hout hu hg h
      go_enter Try.func51, Try.ntmps51
      go_wp2_with fail
      refine Calls.mono Hu.out ?_
      rintro r w1 ⟨rfl, rd1, k1⟩
      have hc1 : Hid (PRc w1 Rb B t) := hc.out.kept hne.out k1
      clear c1 f1 z1
      obtain ⟨c1, f1, z1⟩ := cells_at hc1.out
      go_wp2_with fail
      refine (rErr_is B _ 0 _ rd1).mono ?_
      rintro r w2 ⟨rfl, rfl⟩
      go_wp2_with fail
      refine (ask_ok Rb _).mono ?_
      rintro r w2 ⟨rfl, rfl⟩
      go_wp2_with fail
      refine (giveup_any Rb B t _ _ hc1.out).mono ?_
      rintro r w2 ⟨rfl, rfl⟩
      exact ⟨rfl, .inl ⟨_, hP.out, rfl, k1⟩⟩
    · have hP : Hid (pU t zs = .inr (x, zs.drop n)) := by unfold Hid pU; rw [hg]; simp [hb]
      clear hout hu hg h
      go_enter Try.func51, Try.ntmps51
      go_wp2_with fail
      refine Calls.mono Hu.out ?_
      rintro r w1 ⟨rfl, rd1, k1⟩
      have hc1 : Hid (PRc w1 Rb B t) := hc.out.kept hne.out k1
      clear c1 f1 z1
      obtain ⟨c1, f1, z1⟩ := cells_at hc1.out
      go_wp2_with fail
      refine (rErr_is B _ 0 _ rd1).mono ?_
      rintro r w2 ⟨rfl, rfl⟩
      go_wp2_with fail
      refine (ask_ok Rb _).mono ?_
      rintro r w2 ⟨rfl, rfl⟩
      go_wp2
      go_ret
      exact .inr ⟨_, _, hP.out, rfl, ⟨hc1.out, rd1, hlB.out⟩, k1⟩
  · have hP : Hid (pU t zs = .inl (e, t)) := by unfold Hid pU; rw [hg]; simp [he]
    have Hu : Hid _ := hu
    clear hout hu hg h
    go_enter Try.func51, Try.ntmps51
    go_wp2_with fail
    refine Calls.mono Hu.out ?_
    rintro r w1 ⟨rfl, rd1, k1⟩
    have hc1 : Hid (PRc w1 Rb B t) := hc.out.kept hne.out k1
    clear c1 f1 z1
    obtain ⟨c1, f1, z1⟩ := cells_at hc1.out
    go_wp2_with fail
    refine (rErr_is B _ e _ rd1).mono ?_
    rintro r w2 ⟨rfl, rfl⟩
    go_wp2_with fail
    refine (ask_bad Rb B t e _ hc1.out he).mono ?_
    rintro r w2 ⟨rfl, rfl⟩
    exact ⟨rfl, .inl ⟨_, hP.out, rfl, k1⟩⟩
set_option maxHeartbeats 1000000 in
theorem rcount_any (Rb B : Nat) (zs : List Int) (t most : Int) (w : World) (h : PR w Rb B zs t) (hm0 : 0 ≤ most) (hm1 : most ≤ 1000000) :
    Calls Try.prog 75 #[(.pointer (some ⟨Rb, 0, none⟩)), .int .i64 most] w fun r w' => (∃ x, pN t most zs = .inl x ∧ r = fpan x.1 x.2 ∧ Wr.Kept [B] w w') ∨ ∃ (v : Nat) (rs : List Int), pN t most zs = .inr ((v : Int), rs) ∧ (v : Int) ≤ most ∧ r = .returned (.int .i64 v) ∧ PR w' Rb B rs t ∧ Wr.Kept [B] w w' := by
  have hu := rN_is B zs 0 most w h.2.1 (by omega) (by omega)
  have hout := frR_out h.byt 0
  rw [frR_0] at hu hout
  obtain ⟨c1, f1, z1⟩ := cells_at h.1
  have hc : Hid (PRc w Rb B t) := h.1
  have hne : Hid (Rb ≠ B) := h.ne
  have hlB : Hid (Rb < B) := h.2.2
  obtain ⟨x, n, e, hg⟩ : ∃ x n e, cut most (getR zs) = (x, n, e) := ⟨_, _, _, rfl⟩
  have hv : e = 0 → 0 ≤ x ∧ x ≤ most := by
    intro he
    unfold cut at hg
    by_cases q : (getR zs).2.2 = 0 ∧ (most < 0 ∨ most < (getR zs).1)
    · rw [if_pos q] at hg; simp only [Prod.mk.injEq] at hg; omega
    · rw [if_neg q] at hg
      rw [hg] at hout q
      simp only at hout q
      rcases hout with ⟨-, -, a, b, -⟩ | ⟨a, -⟩
      · omega
      · exact absurd he a
  rw [hg] at hu
  simp only at hu
  by_cases he : e = 0
  · subst he
    obtain ⟨hx0, hx1⟩ := hv rfl
    obtain ⟨v, rfl⟩ := Int.eq_ofNat_of_zero_le hx0
    rw [show aX ((v : Int), n, 0) = v from if_pos rfl, show aZ ((v : Int), n, 0) zs = zs.drop n from if_pos rfl] at hu
    have Hu : Hid _ := hu
    have hP : Hid (pN t most zs = .inr ((v : Int), zs.drop n)) := by unfold Hid pN; rw [hg]; simp
    clear hout hu hg h hv
    go_enter Try.func75, Try.ntmps75
    go_wp2_with fail
    refine Calls.mono Hu.out ?_
    rintro r w1 ⟨rfl, rd1, k1⟩
    have hc1 : Hid (PRc w1 Rb B t) := hc.out.kept hne.out k1
    clear c1 f1 z1
    obtain ⟨c1, f1, z1⟩ := cells_at hc1.out
    go_wp2_with fail
    refine (rErr_is B _ 0 _ rd1).mono ?_
    rintro r w2 ⟨rfl, rfl⟩
    go_wp2_with fail
    refine (ask_ok Rb _).mono ?_
    rintro r w2 ⟨rfl, rfl⟩
    go_wp2
    go_ret
    exact .inr ⟨_, _, hP.out, hx1, rfl, ⟨hc1.out, rd1, hlB.out⟩, k1⟩
  · have hP : Hid (pN t most zs = .inl (e, t)) := by unfold Hid pN; rw [hg]; simp [he]
    have Hu : Hid _ := hu
    clear hout hu hg h hv
    go_enter Try.func75, Try.ntmps75
    go_wp2_with fail
    refine Calls.mono Hu.out ?_
    rintro r w1 ⟨rfl, rd1, k1⟩
    have hc1 : Hid (PRc w1 Rb B t) := hc.out.kept hne.out k1
    clear c1 f1 z1
    obtain ⟨c1, f1, z1⟩ := cells_at hc1.out
    go_wp2_with fail
    refine (rErr_is B _ e _ rd1).mono ?_
    rintro r w2 ⟨rfl, rfl⟩
    go_wp2_with fail
    refine (ask_bad Rb B t e _ hc1.out he).mono ?_
    rintro r w2 ⟨rfl, rfl⟩
    exact ⟨rfl, .inl ⟨_, hP.out, rfl, k1⟩⟩
theorem wrap_i16 (y : Int) : ∃ v, IntKind.i16.wrap y = v ∧ -32768 ≤ v ∧ v ≤ 32767 ∧ ((-32768 ≤ y ∧ y ≤ 32767) → v = y) := by
  have e : IntKind.i16.wrap y = (y + 32768) % 65536 - 32768 := by simp [IntKind.wrap, IntKind.bits, IntKind.signed]; omega
  refine ⟨_, rfl, ?_⟩
  rw [e]
  omega
theorem wrap_i32' (y : Int) : ∃ v, wrap32 y = v ∧ -2147483648 ≤ v ∧ v ≤ 2147483647 ∧ ((-2147483648 ≤ y ∧ y ≤ 2147483647) → v = y) := by
  refine ⟨_, rfl, ?_⟩
  unfold wrap32
  omega
set_option maxHeartbeats 1000000 in
theorem rsigned_i16 (Rb B : Nat) (zs : List Int) (t : Int) (w : World) (h : PR w Rb B zs t) :
    Calls Try.prog 100 #[(.pointer (some ⟨Rb, 0, none⟩))] w fun r w' => (∃ x, p16 t zs = .inl x ∧ r = fpan x.1 x.2 ∧ Wr.Kept [B] w w') ∨ ∃ v rs, p16 t zs = .inr (v, rs) ∧ ((-32768) ≤ v ∧ v ≤ 32767) ∧ r = .returned (.int .i16 v) ∧ PR w' Rb B rs t ∧ Wr.Kept [B] w w' := by
  have hu := rS_is B zs 0 w h.2.1
  have hout := frR_out h.byt 0
  rw [frR_0] at hu hout
  obtain ⟨c1, f1, z1⟩ := cells_at h.1
  have hc : Hid (PRc w Rb B t) := h.1
  have hne : Hid (Rb ≠ B) := h.ne
  have hlB : Hid (Rb < B) := h.2.2
  obtain ⟨x, n, e, hg⟩ : ∃ x n e, getR zs = (x, n, e) := ⟨_, _, _, rfl⟩
  rw [hg] at hu hout
  simp only at hout hu
  by_cases he : e = 0
  · subst he
    have hx : 0 ≤ x ∧ x < 18446744073709551616 := by rcases hout with ⟨-, -, a, b, -⟩ | ⟨a, -⟩; exact ⟨a, b⟩; exact absurd rfl a
    have hy : -9223372036854775808 ≤ unfR x ∧ unfR x ≤ 9223372036854775807 := by unfold unfR; split <;> omega
    rw [show aX (x, n, 0) = x from if_pos rfl, show aZ (x, n, 0) zs = zs.drop n from if_pos rfl] at hu
    obtain ⟨y, hyx⟩ : ∃ y, unfR x = y := ⟨_, rfl⟩
    rw [hyx] at hy hu
    have Hu : Hid _ := hu
    by_cases hb : y < (-32768) ∨ 32767 < y
    · have hP : Hid (p16 t zs = .inl (41, t)) := by unfold Hid p16 pS; rw [hg]; simp [hyx, hb]
      obtain ⟨v, hv, hv0, hv1, -⟩ := wrap_i16 y
      have hvy : v ≠ y := by omega
      clear hout hu hg h hyx hb
      go_enter Try.func100, Try.ntmps100
      go_wp2_with fail
      refine Calls.mono Hu.out ?_
      rintro r w1 ⟨rfl, rd1, k1⟩
      have hc1 : Hid (PRc w1 Rb B t) := hc.out.kept hne.out k1
      clear c1 f1 z1
      obtain ⟨c1, f1, z1⟩ := cells_at hc1.out
      go_wp2_with fail
      refine (rErr_is B _ 0 _ rd1).mono ?_
      rintro r w2 ⟨rfl, rfl⟩
      go_wp2_with fail
      refine (ask_ok Rb _).mono ?_
      rintro r w2 ⟨rfl, rfl⟩
      go_wp2_with fail
      refine (giveup_any Rb B t _ _ hc1.out).mono ?_
      rintro r w2 ⟨rfl, rfl⟩
      exact ⟨rfl, .inl ⟨_, hP.out, rfl, k1⟩⟩
    · have hP : Hid (p16 t zs = .inr (y, zs.drop n)) := by unfold Hid p16 pS; rw [hg]; simp [hyx, hb]
      have hy2 : (-32768) ≤ y ∧ y ≤ 32767 := by omega
      clear hout hu hg h hyx hb hy
      obtain ⟨hy0, hy1⟩ := hy2
      go_enter Try.func100, Try.ntmps100
      go_wp2_with fail
      refine Calls.mono Hu.out ?_
      rintro r w1 ⟨rfl, rd1, k1⟩
      have hc1 : Hid (PRc w1 Rb B t) := hc.out.kept hne.out k1
      clear c1 f1 z1
      obtain ⟨c1, f1, z1⟩ := cells_at hc1.out
      go_wp2_with fail
      refine (rErr_is B _ 0 _ rd1).mono ?_
      rintro r w2 ⟨rfl, rfl⟩
      go_wp2_with fail
      refine (ask_ok Rb _).mono ?_
      rintro r w2 ⟨rfl, rfl⟩
      go_wp2
      go_ret
      exact .inr ⟨_, _, hP.out, ⟨hy0, hy1⟩, rfl, ⟨hc1.out, rd1, hlB.out⟩, k1⟩
  · have hP : Hid (p16 t zs = .inl (e, t)) := by unfold Hid p16 pS; rw [hg]; simp [he]
    have Hu : Hid _ := hu
    clear hout hu hg h
    go_enter Try.func100, Try.ntmps100
    go_wp2_with fail
    refine Calls.mono Hu.out ?_
    rintro r w1 ⟨rfl, rd1, k1⟩
    have hc1 : Hid (PRc w1 Rb B t) := hc.out.kept hne.out k1
    clear c1 f1 z1
    obtain ⟨c1, f1, z1⟩ := cells_at hc1.out
    go_wp2_with fail
    refine (rErr_is B _ e _ rd1).mono ?_
    rintro r w2 ⟨rfl, rfl⟩
    go_wp2_with fail
    refine (ask_bad Rb B t e _ hc1.out he).mono ?_
    rintro r w2 ⟨rfl, rfl⟩
    exact ⟨rfl, .inl ⟨_, hP.out, rfl, k1⟩⟩
set_option maxHeartbeats 1000000 in
theorem rsigned_i32 (Rb B : Nat) (zs : List Int) (t : Int) (w : World) (h : PR w Rb B zs t) :
    Calls Try.prog 74 #[(.pointer (some ⟨Rb, 0, none⟩))] w fun r w' => (∃ x, p32 t zs = .inl x ∧ r = fpan x.1 x.2 ∧ Wr.Kept [B] w w') ∨ ∃ v rs, p32 t zs = .inr (v, rs) ∧ ((-2147483648) ≤ v ∧ v ≤ 2147483647) ∧ r = .returned (.int .i32 v) ∧ PR w' Rb B rs t ∧ Wr.Kept [B] w w' := by
  have hu := rS_is B zs 0 w h.2.1
  have hout := frR_out h.byt 0
  rw [frR_0] at hu hout
  obtain ⟨c1, f1, z1⟩ := cells_at h.1
  have hc : Hid (PRc w Rb B t) := h.1
  have hne : Hid (Rb ≠ B) := h.ne
  have hlB : Hid (Rb < B) := h.2.2
  obtain ⟨x, n, e, hg⟩ : ∃ x n e, getR zs = (x, n, e) := ⟨_, _, _, rfl⟩
  rw [hg] at hu hout
  simp only at hout hu
  by_cases he : e = 0
  · subst he
    have hx : 0 ≤ x ∧ x < 18446744073709551616 := by rcases hout with ⟨-, -, a, b, -⟩ | ⟨a, -⟩; exact ⟨a, b⟩; exact absurd rfl a
    have hy : -9223372036854775808 ≤ unfR x ∧ unfR x ≤ 9223372036854775807 := by unfold unfR; split <;> omega
    rw [show aX (x, n, 0) = x from if_pos rfl, show aZ (x, n, 0) zs = zs.drop n from if_pos rfl] at hu
    obtain ⟨y, hyx⟩ : ∃ y, unfR x = y := ⟨_, rfl⟩
    rw [hyx] at hy hu
    have Hu : Hid _ := hu
    by_cases hb : y < (-2147483648) ∨ 2147483647 < y
    · have hP : Hid (p32 t zs = .inl (41, t)) := by unfold Hid p32 pS; rw [hg]; simp [hyx, hb]
      obtain ⟨v, hv, hv0, hv1, -⟩ := wrap_i32' y
      have hvy : v ≠ y := by omega
      clear hout hu hg h hyx hb
      go_enter Try.func74, Try.ntmps74
      go_wp2_with fail
      refine Calls.mono Hu.out ?_
      rintro r w1 ⟨rfl, rd1, k1⟩
      have hc1 : Hid (PRc w1 Rb B t) := hc.out.kept hne.out k1
      clear c1 f1 z1
      obtain ⟨c1, f1, z1⟩ := cells_at hc1.out
      go_wp2_with fail
      refine (rErr_is B _ 0 _ rd1).mono ?_
      rintro r w2 ⟨rfl, rfl⟩
      go_wp2_with fail
      refine (ask_ok Rb _).mono ?_
      rintro r w2 ⟨rfl, rfl⟩
      go_wp2_with fail
      refine (giveup_any Rb B t _ _ hc1.out).mono ?_
      rintro r w2 ⟨rfl, rfl⟩
      exact ⟨rfl, .inl ⟨_, hP.out, rfl, k1⟩⟩
    · have hP : Hid (p32 t zs = .inr (y, zs.drop n)) := by unfold Hid p32 pS; rw [hg]; simp [hyx, hb]
      have hy2 : (-2147483648) ≤ y ∧ y ≤ 2147483647 := by omega
      clear hout hu hg h hyx hb hy
      obtain ⟨hy0, hy1⟩ := hy2
      go_enter Try.func74, Try.ntmps74
      go_wp2_with fail
      refine Calls.mono Hu.out ?_
      rintro r w1 ⟨rfl, rd1, k1⟩
      have hc1 : Hid (PRc w1 Rb B t) := hc.out.kept hne.out k1
      clear c1 f1 z1
      obtain ⟨c1, f1, z1⟩ := cells_at hc1.out
      go_wp2_with fail
      refine (rErr_is B _ 0 _ rd1).mono ?_
      rintro r w2 ⟨rfl, rfl⟩
      go_wp2_with fail
      refine (ask_ok Rb _).mono ?_
      rintro r w2 ⟨rfl, rfl⟩
      go_wp2
      go_ret
      exact .inr ⟨_, _, hP.out, ⟨hy0, hy1⟩, rfl, ⟨hc1.out, rd1, hlB.out⟩, k1⟩
  · have hP : Hid (p32 t zs = .inl (e, t)) := by unfold Hid p32 pS; rw [hg]; simp [he]
    have Hu : Hid _ := hu
    clear hout hu hg h
    go_enter Try.func74, Try.ntmps74
    go_wp2_with fail
    refine Calls.mono Hu.out ?_
    rintro r w1 ⟨rfl, rd1, k1⟩
    have hc1 : Hid (PRc w1 Rb B t) := hc.out.kept hne.out k1
    clear c1 f1 z1
    obtain ⟨c1, f1, z1⟩ := cells_at hc1.out
    go_wp2_with fail
    refine (rErr_is B _ e _ rd1).mono ?_
    rintro r w2 ⟨rfl, rfl⟩
    go_wp2_with fail
    refine (ask_bad Rb B t e _ hc1.out he).mono ?_
    rintro r w2 ⟨rfl, rfl⟩
    exact ⟨rfl, .inl ⟨_, hP.out, rfl, k1⟩⟩
set_option maxHeartbeats 1000000 in
theorem whole_any (Rb B : Nat) (zs : List Int) (t : Int) (w : World) (h : PR w Rb B zs t) :
    Calls Try.prog 52 #[(.pointer (some ⟨Rb, 0, none⟩))] w fun r w' => (∃ x, p32 t zs = .inl x ∧ r = fpan x.1 x.2 ∧ Wr.Kept [B] w w') ∨ ∃ v rs, p32 t zs = .inr (v, rs) ∧ r = .returned (.int .i64 v) ∧ PR w' Rb B rs t ∧ Wr.Kept [B] w w' := by
  have hu : Hid _ := rsigned_i32 Rb B zs t w h
  clear h
  go_enter Try.func52, Try.ntmps52
  go_wp2_with fail
  refine Calls.mono hu.out ?_
  rintro r w1 (⟨x, hx, rfl, k1⟩ | ⟨v, rs, hx, ⟨v0, v1⟩, rfl, pr, k1⟩)
  · exact ⟨rfl, .inl ⟨x, hx, rfl, k1⟩⟩
  · have hx' : Hid _ := hx
    clear hx hu
    go_wp2
    go_ret
    exact .inr ⟨_, _, hx'.out, rfl, pr, k1⟩
end Go.Proofs.Ythagdpiocmcbmaa
