/- The reader of package seal: numbers, spans, plans, or a fault. -/
import Derived.Test.YthlnhodfgmpabaaSelP
import Derived.Test.YthlnhodfgmpabaaGenA
import Derived.WalkSmall
namespace Go.Proofs.Ythlnhodfgmpabaa.Sl
open Wr
open Go.ChangeShapes Go.WideShapes Go.ChangeAt Go.RowKit
set_option linter.unusedVariables false
/-- Given up with a fault. -/
def fpan (x t : Int) : Ending := .panicked [{ v := .iface 30 (.agg #[.int .i64 x, .int .i64 (t / 4096), .int .i64 (t % 4096)]), recovered := false }]
/-- A reader of package seal: what is left, and where it is: the list's number times 4096, and the plan's. -/
def PRc (w : World) (Rb B : Nat) (t : Int) : Prop := w.heap[Rb]? = some (.cells #[.pointer (some ⟨B, 0, none⟩), .int .i64 (t / 4096), .int .i64 (t % 4096)] 80 (0, 0))
def PR (w : World) (Rb B : Nat) (zs : List Int) (t : Int) : Prop := PRc w Rb B t ∧ Rd w B 101 zs 0 ∧ Rb < B
theorem PR.ne {w : World} {Rb B : Nat} {zs : List Int} {t : Int} (h : PR w Rb B zs t) : Rb ≠ B := by have := h.2.2; omega
theorem PR.lt {w : World} {Rb B : Nat} {zs : List Int} {t : Int} (h : PR w Rb B zs t) : Rb < w.heap.size := lt_of_heap h.1
theorem PRc.kept {w w' : World} {Rb B : Nat} {t : Int} (h : PRc w Rb B t) (hne : Rb ≠ B) (k : Wr.Kept [B] w w') : PRc w' Rb B t := (k.2.2.2.2 _ (lt_of_heap h) (by simpa using hne)).trans h
theorem PR.byt {w : World} {Rb B : Nat} {zs : List Int} {t : Int} (h : PR w Rb B zs t) : Byt zs := h.2.1.byt
theorem PR.ltB {w : World} {Rb B : Nat} {zs : List Int} {t : Int} (h : PR w Rb B zs t) : B < w.heap.size := h.2.1.lt
/-- What lies behind a reader may turn. -/
theorem PR.keep {w w' : World} {Rb B : Nat} {zs : List Int} {t : Int} (h : PR w Rb B zs t) (k : Below (B + 1) w w') : PR w' Rb B zs t := by
  obtain ⟨h1, ⟨a, len, cap, h2, h3, h4⟩, h5⟩ := h
  refine ⟨(k.block _ (by omega)).trans h1, ⟨a, len, cap, (k.block _ (by omega)).trans h2, ⟨h3.1, h3.2.1, h3.2.2.1, h3.2.2.2.1, h3.2.2.2.2.1, fun x hx i hi => ?_⟩, h4⟩, h5⟩
  have hc := h3.2.2.2.2.2 x hx i hi
  have hb : (x.add i).block = x.block := by unfold Addr.add; split <;> rfl
  have := h4 x hx
  exact (k.cell (p := x.add i) (by omega)).trans hc
theorem PR.below {w w' : World} {Rb B : Nat} {zs : List Int} {t : Int} (h : PR w Rb B zs t) (k : Below w.heap.size w w') : PR w' Rb B zs t := h.keep (k.mono h.ltB)
theorem PR.al {w : World} {Rb B : Nat} {zs : List Int} {t : Int} (h : PR w Rb B zs t) (o : Obj) : PR (w.alloc o) Rb B zs t := h.below (bal _ _)
set_option maxHeartbeats 2000000 in
set_option maxRecDepth 100000 in
theorem giveup_gen (Rb : Nat) (q : Value) (t1 t2 e : Int) (w : World) (h : w.heap[Rb]? = some (.cells #[q, .int .i64 t1, .int .i64 t2] 80 (0, 0))) :
    Calls Try.prog 42 #[(.pointer (some ⟨Rb, 0, none⟩)), .int .i64 e] w fun r w' => r = .panicked [{ v := .iface 30 (.agg #[.int .i64 e, .int .i64 t1, .int .i64 t2]), recovered := false }] ∧ Below w.heap.size w w' := by
  obtain ⟨c1, f1, z1⟩ := cells_at h
  clear h
  go_enter Try.func42, Try.ntmps42
  go_wp2
  refine regionC (fun w' => ∀ i, w'.cell? ⟨Rb, i, none⟩ = #[q, .int .i64 t1, .int .i64 t2][i]?) (by kernel_rfl) ?_
  have hC : ∀ i, w.drew.cell? ⟨Rb, i, none⟩ = #[q, .int .i64 t1, .int .i64 t2][i]? := c1
  refine takeC 0 (v := .int .i64 e) rfl rfl (by kernel_rfl) (by kernel_rfl) (by kernel_rfl) (fun _ _ _ h => h) (fun _ => by kernel_rfl) (by kernel_rfl) (fun w' hw' => by kernel_rfl) ?_
  refine takeC 1 (v := (.pointer (some ⟨Rb, 0, none⟩))) rfl rfl (by kernel_rfl) (by kernel_rfl) (by kernel_rfl) (fun _ _ _ h => h) (fun _ => by kernel_rfl) (by kernel_rfl) (fun w' hw' => by kernel_rfl) ?_
  refine takeC 2 (v := (.pointer (some ⟨Rb, 0, none⟩))) rfl rfl (by kernel_rfl) (by kernel_rfl) (by kernel_rfl) (fun _ _ _ h => h) (fun _ => by kernel_rfl) (by kernel_rfl) (fun w' hw' => by kernel_rfl) ?_
  refine takeC 3 (v := .pointer (some ⟨Rb, 1, none⟩)) rfl rfl (by kernel_rfl) (by kernel_rfl) (by kernel_rfl) (fun _ _ _ h => h) (fun _ => by kernel_rfl) (by kernel_rfl) (fun w' hw' => by kernel_rfl) ?_
  refine takeC 4 (v := .int .i64 t1) rfl rfl (by kernel_rfl) (by kernel_rfl) (by kernel_rfl) (fun _ _ _ h => h) (fun _ => by kernel_rfl) (by kernel_rfl) (fun w' hw' => by have h1 := hw' 1; go_simp) ?_
  refine takeC 5 (v := (.pointer (some ⟨Rb, 0, none⟩))) rfl rfl (by kernel_rfl) (by kernel_rfl) (by kernel_rfl) (fun _ _ _ h => h) (fun _ => by kernel_rfl) (by kernel_rfl) (fun w' hw' => by kernel_rfl) ?_
  refine takeC 6 (v := (.pointer (some ⟨Rb, 0, none⟩))) rfl rfl (by kernel_rfl) (by kernel_rfl) (by kernel_rfl) (fun _ _ _ h => h) (fun _ => by kernel_rfl) (by kernel_rfl) (fun w' hw' => by kernel_rfl) ?_
  refine takeC 7 (v := .pointer (some ⟨Rb, 2, none⟩)) rfl rfl (by kernel_rfl) (by kernel_rfl) (by kernel_rfl) (fun _ _ _ h => h) (fun _ => by kernel_rfl) (by kernel_rfl) (fun w' hw' => by kernel_rfl) ?_
  refine takeC 8 (v := .int .i64 t2) rfl rfl (by kernel_rfl) (by kernel_rfl) (by kernel_rfl) (fun _ _ _ h => h) (fun _ => by kernel_rfl) (by kernel_rfl) (fun w' hw' => by have h1 := hw' 2; go_simp) ?_
  refine takeC 9 (v := .agg #[.int .i64 e, .int .i64 t1, .int .i64 t2]) rfl rfl (by kernel_rfl) (by kernel_rfl) (by kernel_rfl) (fun _ _ _ h => h) (fun _ => by kernel_rfl) (by kernel_rfl) (fun w' hw' => by kernel_rfl) ?_
  refine takeC 10 (v := .iface 30 (.agg #[.int .i64 e, .int .i64 t1, .int .i64 t2])) rfl rfl (by kernel_rfl) (by kernel_rfl) (by kernel_rfl) (fun _ _ _ h => h) (fun _ => by kernel_rfl) (by kernel_rfl) (fun w' hw' => by kernel_rfl) ?_
  refine zP 11 hC (by kernel_rfl) rfl rfl (.iface 30 (.agg #[.int .i64 e, .int .i64 t1, .int .i64 t2])) w.drew (by kernel_rfl) ?_
  exact ⟨rfl, rfl, (Below.refl _ _).drew⟩
theorem giveup_any (Rb B : Nat) (t e : Int) (w : World) (h : PRc w Rb B t) :
    Calls Try.prog 42 #[(.pointer (some ⟨Rb, 0, none⟩)), .int .i64 e] w fun r w' => r = fpan e t ∧ Below w.heap.size w w' := giveup_gen Rb _ _ _ e w h
theorem ask_ok (Rb : Nat) (w : World) :
    Calls Try.prog 47 #[(.pointer (some ⟨Rb, 0, none⟩)), .int .i64 0] w fun r w' => r = .returned (.tuple #[]) ∧ w' = w := by
  go_enter Try.func47, Try.ntmps47
  go_wp2
  go_end0
  exact ⟨rfl, rfl⟩
theorem ask_bad (Rb B : Nat) (t e : Int) (w : World) (h : PRc w Rb B t) (he : e ≠ 0) :
    Calls Try.prog 47 #[(.pointer (some ⟨Rb, 0, none⟩)), .int .i64 e] w fun r w' => r = fpan e t ∧ Below w.heap.size w w' := by
  go_enter Try.func47, Try.ntmps47
  go_wp2_with fail
  refine (giveup_any Rb B t e _ h).mono ?_
  rintro r w1 ⟨rfl, hb⟩
  exact ⟨rfl, rfl, hb⟩
theorem frR_0 (zs : List Int) : frR zs 0 = getR zs := if_pos rfl
set_option maxHeartbeats 1000000 in
theorem ofplan_any (Rb B : Nat) (zs : List Int) (t : Int) (w : World) (h : PR w Rb B zs t) :
    Calls Try.prog 76 #[(.pointer (some ⟨Rb, 0, none⟩))] w fun r w' => (∃ x, pU t zs = .inl x ∧ r = fpan x.1 x.2 ∧ Wr.Kept [B] w w') ∨ ∃ v rs, pU t zs = .inr (v, rs) ∧ r = .returned (.int .i64 v) ∧ PR w' Rb B rs t ∧ Wr.Kept [B] w w' := by
  have hu := rU_is B zs 0 w h.2.1
  have hout := frR_out h.byt 0
  rw [frR_0] at hu hout
  obtain ⟨c1, f1, z1⟩ := cells_at h.1
  have hc : Hid (PRc w Rb B t) := h.1
  have hne : Hid (Rb ≠ B) := h.ne
  have hlB : Hid (Rb < B) := h.2.2
  obtain ⟨x, n, e, hg⟩ : ∃ x n e, getR zs = (x, n, e) := ⟨_, _, _, rfl⟩
  rw [hg] at hu hout
  simp only at hout hu
  by_cases he : e = 0
  · subst he
    have hx : 0 ≤ x ∧ x < 18446744073709551616 := by rcases hout with ⟨-, -, a, b, -⟩ | ⟨a, -⟩; exact ⟨a, b⟩; exact absurd rfl a
    obtain ⟨hx0, hx1⟩ := hx
    rw [show aX (x, n, 0) = x from if_pos rfl, show aZ (x, n, 0) zs = zs.drop n from if_pos rfl] at hu
    have Hu : Hid _ := hu
    by_cases hb : 2147483647 < x
    · have hP : Hid (pU t zs = .inl (41, t)) := by unfold Hid pU; rw [hg]; simp [hb]
      clear hout hu hg h
      go_enter Try.func76, Try.ntmps76
      go_wp2_with fail
      refine Calls.mono Hu.out ?_
      rintro r w1 ⟨rfl, rd1, k1⟩
      have hc1 : Hid (PRc w1 Rb B t) := hc.out.kept hne.out k1
      clear c1 f1 z1
      obtain ⟨c1, f1, z1⟩ := cells_at hc1.out
      go_wp2_with fail
      refine (rErr_is B _ 0 _ rd1).mono ?_
      rintro r w2 ⟨rfl, rfl⟩
      go_wp2_with fail
      refine (ask_ok Rb _).mono ?_
      rintro r w2 ⟨rfl, rfl⟩
      go_wp2_with fail
      refine (giveup_any Rb B t _ _ hc1.out).mono ?_
      rintro r w2 ⟨rfl, hb2⟩
      exact ⟨rfl, .inl ⟨_, hP.out, rfl, k1.trans (Kept.of hb2)⟩⟩
    · have hP : Hid (pU t zs = .inr (x, zs.drop n)) := by unfold Hid pU; rw [hg]; simp [hb]
      clear hout hu hg h
      go_enter Try.func76, Try.ntmps76
      go_wp2_with fail
      refine Calls.mono Hu.out ?_
      rintro r w1 ⟨rfl, rd1, k1⟩
      have hc1 : Hid (PRc w1 Rb B t) := hc.out.kept hne.out k1
      clear c1 f1 z1
      obtain ⟨c1, f1, z1⟩ := cells_at hc1.out
      go_wp2_with fail
      refine (rErr_is B _ 0 _ rd1).mono ?_
      rintro r w2 ⟨rfl, rfl⟩
      go_wp2_with fail
      refine (ask_ok Rb _).mono ?_
      rintro r w2 ⟨rfl, rfl⟩
      go_wp2
      go_ret
      exact .inr ⟨_, _, hP.out, rfl, ⟨hc1.out, rd1, hlB.out⟩, k1⟩
  · have hP : Hid (pU t zs = .inl (e, t)) := by unfold Hid pU; rw [hg]; simp [he]
    have Hu : Hid _ := hu
    clear hout hu hg h
    go_enter Try.func76, Try.ntmps76
    go_wp2_with fail
    refine Calls.mono Hu.out ?_
    rintro r w1 ⟨rfl, rd1, k1⟩
    have hc1 : Hid (PRc w1 Rb B t) := hc.out.kept hne.out k1
    clear c1 f1 z1
    obtain ⟨c1, f1, z1⟩ := cells_at hc1.out
    go_wp2_with fail
    refine (rErr_is B _ e _ rd1).mono ?_
    rintro r w2 ⟨rfl, rfl⟩
    go_wp2_with fail
    refine (ask_bad Rb B t e _ hc1.out he).mono ?_
    rintro r w2 ⟨rfl, hb2⟩
    exact ⟨rfl, .inl ⟨_, hP.out, rfl, k1.trans (Kept.of hb2)⟩⟩
set_option maxHeartbeats 1000000 in
theorem rcount_any (Rb B : Nat) (zs : List Int) (t most : Int) (w : World) (h : PR w Rb B zs t) (hm0 : 0 ≤ most) (hm1 : most ≤ 1000000) :
    Calls Try.prog 58 #[(.pointer (some ⟨Rb, 0, none⟩)), .int .i64 most] w fun r w' => (∃ x, pN t most zs = .inl x ∧ r = fpan x.1 x.2 ∧ Wr.Kept [B] w w') ∨ ∃ (v : Nat) (rs : List Int), pN t most zs = .inr ((v : Int), rs) ∧ (v : Int) ≤ most ∧ r = .returned (.int .i64 v) ∧ PR w' Rb B rs t ∧ Wr.Kept [B] w w' := by
  have hu := rN_is B zs 0 most w h.2.1 (by omega) (by omega)
  have hout := frR_out h.byt 0
  rw [frR_0] at hu hout
  obtain ⟨c1, f1, z1⟩ := cells_at h.1
  have hc : Hid (PRc w Rb B t) := h.1
  have hne : Hid (Rb ≠ B) := h.ne
  have hlB : Hid (Rb < B) := h.2.2
  obtain ⟨x, n, e, hg⟩ : ∃ x n e, cut most (getR zs) = (x, n, e) := ⟨_, _, _, rfl⟩
  have hv : e = 0 → 0 ≤ x ∧ x ≤ most := by
    intro he
    unfold cut at hg
    by_cases q : (getR zs).2.2 = 0 ∧ (most < 0 ∨ most < (getR zs).1)
    · rw [if_pos q] at hg; simp only [Prod.mk.injEq] at hg; omega
    · rw [if_neg q] at hg
      rw [hg] at hout q
      simp only at hout q
      rcases hout with ⟨-, -, a, b, -⟩ | ⟨a, -⟩
      · omega
      · exact absurd he a
  rw [hg] at hu
  simp only at hu
  by_cases he : e = 0
  · subst he
    obtain ⟨hx0, hx1⟩ := hv rfl
    obtain ⟨v, rfl⟩ := Int.eq_ofNat_of_zero_le hx0
    rw [show aX ((v : Int), n, 0) = v from if_pos rfl, show aZ ((v : Int), n, 0) zs = zs.drop n from if_pos rfl] at hu
    have Hu : Hid _ := hu
    have hP : Hid (pN t most zs = .inr ((v : Int), zs.drop n)) := by unfold Hid pN; rw [hg]; simp
    clear hout hu hg h hv
    go_enter Try.func58, Try.ntmps58
    go_wp2_with fail
    refine Calls.mono Hu.out ?_
    rintro r w1 ⟨rfl, rd1, k1⟩
    have hc1 : Hid (PRc w1 Rb B t) := hc.out.kept hne.out k1
    clear c1 f1 z1
    obtain ⟨c1, f1, z1⟩ := cells_at hc1.out
    go_wp2_with fail
    refine (rErr_is B _ 0 _ rd1).mono ?_
    rintro r w2 ⟨rfl, rfl⟩
    go_wp2_with fail
    refine (ask_ok Rb _).mono ?_
    rintro r w2 ⟨rfl, rfl⟩
    go_wp2
    go_ret
    exact .inr ⟨_, _, hP.out, hx1, rfl, ⟨hc1.out, rd1, hlB.out⟩, k1⟩
  · have hP : Hid (pN t most zs = .inl (e, t)) := by unfold Hid pN; rw [hg]; simp [he]
    have Hu : Hid _ := hu
    clear hout hu hg h hv
    go_enter Try.func58, Try.ntmps58
    go_wp2_with fail
    refine Calls.mono Hu.out ?_
    rintro r w1 ⟨rfl, rd1, k1⟩
    have hc1 : Hid (PRc w1 Rb B t) := hc.out.kept hne.out k1
    clear c1 f1 z1
    obtain ⟨c1, f1, z1⟩ := cells_at hc1.out
    go_wp2_with fail
    refine (rErr_is B _ e _ rd1).mono ?_
    rintro r w2 ⟨rfl, rfl⟩
    go_wp2_with fail
    refine (ask_bad Rb B t e _ hc1.out he).mono ?_
    rintro r w2 ⟨rfl, hb2⟩
    exact ⟨rfl, .inl ⟨_, hP.out, rfl, k1.trans (Kept.of hb2)⟩⟩
set_option maxHeartbeats 1000000 in
theorem rsigned_any (Rb B : Nat) (zs : List Int) (t : Int) (w : World) (h : PR w Rb B zs t) :
    Calls Try.prog 71 #[(.pointer (some ⟨Rb, 0, none⟩))] w fun r w' => (∃ x, p64 t zs = .inl x ∧ r = fpan x.1 x.2 ∧ Wr.Kept [B] w w') ∨ ∃ v rs, p64 t zs = .inr (v, rs) ∧ r = .returned (.int .i64 v) ∧ PR w' Rb B rs t ∧ Wr.Kept [B] w w' := by
  have hu := rS_is B zs 0 w h.2.1
  have hout := frR_out h.byt 0
  rw [frR_0] at hu hout
  obtain ⟨c1, f1, z1⟩ := cells_at h.1
  have hc : Hid (PRc w Rb B t) := h.1
  have hne : Hid (Rb ≠ B) := h.ne
  have hlB : Hid (Rb < B) := h.2.2
  obtain ⟨x, n, e, hg⟩ : ∃ x n e, getR zs = (x, n, e) := ⟨_, _, _, rfl⟩
  rw [hg] at hu hout
  simp only at hout hu
  by_cases he : e = 0
  · subst he
    have hx : 0 ≤ x ∧ x < 18446744073709551616 := by rcases hout with ⟨-, -, a, b, -⟩ | ⟨a, -⟩; exact ⟨a, b⟩; exact absurd rfl a
    have hy : -9223372036854775808 ≤ unfR x ∧ unfR x ≤ 9223372036854775807 := by unfold unfR; split <;> omega
    rw [show aX (x, n, 0) = x from if_pos rfl, show aZ (x, n, 0) zs = zs.drop n from if_pos rfl] at hu
    obtain ⟨y, hyx⟩ : ∃ y, unfR x = y := ⟨_, rfl⟩
    rw [hyx] at hy hu
    have Hu : Hid _ := hu
    have hP : Hid (p64 t zs = .inr (y, zs.drop n)) := by unfold Hid p64 pS; rw [hg]; simp only [hyx, ne_eq, not_true_eq_false, if_false]; rw [if_neg (by omega)]
    clear hout hu hg h hyx hy
    go_enter Try.func71, Try.ntmps71
    go_wp2_with fail
    refine Calls.mono Hu.out ?_
    rintro r w1 ⟨rfl, rd1, k1⟩
    have hc1 : Hid (PRc w1 Rb B t) := hc.out.kept hne.out k1
    clear c1 f1 z1
    obtain ⟨c1, f1, z1⟩ := cells_at hc1.out
    go_wp2_with fail
    refine (rErr_is B _ 0 _ rd1).mono ?_
    rintro r w2 ⟨rfl, rfl⟩
    go_wp2_with fail
    refine (ask_ok Rb _).mono ?_
    rintro r w2 ⟨rfl, rfl⟩
    go_wp2
    go_ret
    exact .inr ⟨_, _, hP.out, rfl, ⟨hc1.out, rd1, hlB.out⟩, k1⟩
  · have hP : Hid (p64 t zs = .inl (e, t)) := by unfold Hid p64 pS; rw [hg]; simp [he]
    have Hu : Hid _ := hu
    clear hout hu hg h
    go_enter Try.func71, Try.ntmps71
    go_wp2_with fail
    refine Calls.mono Hu.out ?_
    rintro r w1 ⟨rfl, rd1, k1⟩
    have hc1 : Hid (PRc w1 Rb B t) := hc.out.kept hne.out k1
    clear c1 f1 z1
    obtain ⟨c1, f1, z1⟩ := cells_at hc1.out
    go_wp2_with fail
    refine (rErr_is B _ e _ rd1).mono ?_
    rintro r w2 ⟨rfl, rfl⟩
    go_wp2_with fail
    refine (ask_bad Rb B t e _ hc1.out he).mono ?_
    rintro r w2 ⟨rfl, hb2⟩
    exact ⟨rfl, .inl ⟨_, hP.out, rfl, k1.trans (Kept.of hb2)⟩⟩
theorem kept_row {w wn : World} {L : List Nat} {N : Nat} {cs : Array Value} (k : Wr.Kept L w wn) (hN : w.heap.size ≤ N) : Wr.Kept L w (wn.setRow N cs) :=
  ⟨k.1, k.2.1, k.2.2.1, by rw [size_setRow]; exact k.2.2.2.1, fun i hi hB => (setRow_other wn N i cs (by omega)).trans (k.2.2.2.2 i hi hB)⟩
theorem below_row {wn : World} {b N : Nat} {cs : Array Value} (hb : b < N) : Below (b + 1) wn (wn.setRow N cs) :=
  ⟨rfl, rfl, rfl, by rw [size_setRow]; exact Nat.le_refl _, fun i hi => setRow_other wn N i cs (by omega)⟩
set_option maxHeartbeats 2000000 in
set_option maxRecDepth 100000 in
theorem rspan_any (Rb B : Nat) (zs : List Int) (t : Int) (w : World) (h : PR w Rb B zs t) :
    Calls Try.prog 59 #[(.pointer (some ⟨Rb, 0, none⟩))] w fun r w' => (∃ x, pSp t zs = .inl x ∧ r = fpan x.1 x.2 ∧ Wr.Kept [B] w w') ∨ ∃ v1 v2 rs, pSp t zs = .inr ((v1, v2), rs) ∧ r = .returned (.agg #[.int .i64 v1, .int .i64 v2]) ∧ PR w' Rb B rs t ∧ Wr.Kept [B] w w' := by
  have hlt := h.ltB
  have p0 : Hid (PR (w.alloc (.cells #[.int .i64 0, .int .i64 0] 44)) Rb B zs t) := h.al _
  have k0 : Hid (Wr.Kept [B] w (w.alloc (.cells #[.int .i64 0, .int .i64 0] 44))) := Kept.of (bal _ _)
  have b0 : Hid ((w.alloc (.cells #[.int .i64 0, .int .i64 0] 44)).heap[w.heap.size]? = some (.cells #[.int .i64 0, .int .i64 0] 44 (0, 0))) := heap_alloc_new w _
  clear h
  go_enter Try.func59, Try.ntmps59
  go_wp2_with fail
  refine Calls.mono (rsigned_any Rb B _ t _ p0.out) ?_
  rintro r w1 (⟨x, hx, rfl, k⟩ | ⟨v1, r1, hx, rfl, p, k⟩)
  · exact ⟨rfl, .inl ⟨x, by simp only [pSp, pbind, hx], rfl, k0.out.trans k⟩⟩
  have h1 : Hid (p64 t zs = .inr (v1, r1)) := hx
  have p1 : Hid (PR w1 Rb B r1 t) := p
  have k1 : Hid (Wr.Kept [B] w w1) := k0.out.trans k
  have b1 : Hid (w1.heap[w.heap.size]? = some (.cells #[.int .i64 0, .int .i64 0] 44 (0, 0))) := (k.2.2.2.2 _ (lt_of_heap b0.out) (by simp; omega)).trans b0.out
  clear hx p k p0 k0 b0
  go_wp2_with fail
  refine Calls.mono (rsigned_any Rb B _ t _ p1.out) ?_
  rintro r w2 (⟨x, hx, rfl, k⟩ | ⟨v2, r2, hx, rfl, p, k⟩)
  · exact ⟨rfl, .inl ⟨x, by simp only [pSp, pbind, h1.out, hx], rfl, k1.out.trans k⟩⟩
  have h2 : Hid (p64 t r1 = .inr (v2, r2)) := hx
  have p2 : Hid (PR w2 Rb B r2 t) := p
  have k2 : Hid (Wr.Kept [B] w w2) := k1.out.trans k
  have b2 : Hid (w2.heap[w.heap.size]? = some (.cells #[.int .i64 0, .int .i64 0] 44 (0, 0))) := (k.2.2.2.2 _ (lt_of_heap b1.out) (by simp; omega)).trans b1.out
  clear hx p k p1 k1 b1
  have hP : Hid (pSp t zs = .inr ((v1, v2), r2)) := by simp only [Hid, pSp, pbind, h1.out, h2.out]
  have q : Hid (PR (w2.setRow w.heap.size #[.int .i64 v1, .int .i64 v2]) Rb B r2 t ∧ Wr.Kept [B] w (w2.setRow w.heap.size #[.int .i64 v1, .int .i64 v2]) ∧ (w2.setRow w.heap.size #[.int .i64 v1, .int .i64 v2]).heap[w.heap.size]? = some (.cells #[.int .i64 v1, .int .i64 v2] 44 (0, 0))) := ⟨p2.out.keep (below_row hlt), kept_row k2.out (Nat.le_refl _), setRow_heap _ _ _ _ _ _ b2.out⟩
  have bn := b2.out
  clear p2 k2 b2 h1 h2
  go_wp2_with (refine wpList_store_row rfl 44 (.tmp 2) (.tmp 7) rfl w.heap.size #[.int .i64 v1, .int .i64 v2] rfl rfl 44 _ bn (by kernel_rfl) rfl (by simp [Value.oneCell']) ?_)
  exact bodyPost_ret (results_cell_row Try.results59 _ _ w.heap.size 44 _ (0, 0) _ rfl q.out.2.2 Try.underlying44 rfl (by kernel_rfl)) rfl (.inr ⟨_, _, _, hP.out, rfl, q.out.1, q.out.2.1⟩)
set_option maxHeartbeats 2000000 in
set_option maxRecDepth 100000 in
theorem oneplan_any (Rb B : Nat) (zs : List Int) (t : Int) (w : World) (h : PR w Rb B zs t) :
    Calls Try.prog 72 #[(.pointer (some ⟨Rb, 0, none⟩))] w fun r w' => (∃ x, pPl t zs = .inl x ∧ r = fpan x.1 x.2 ∧ Wr.Kept [B] w w') ∨ ∃ v1 v2 v3 v4 v5 v6 rs, pPl t zs = .inr ((v1, v2, v3, v4, v5, v6), rs) ∧ r = .returned (.agg #[.int .i64 v1, .int .i64 v2, .int .i64 v3, .int .i64 v4, .int .i64 v5, .int .i64 v6]) ∧ PR w' Rb B rs t ∧ Wr.Kept [B] w w' := by
  have hlt := h.ltB
  have p0 : Hid (PR (w.alloc (.cells #[.int .i64 0, .int .i64 0, .int .i64 0, .int .i64 0, .int .i64 0, .int .i64 0] 47)) Rb B zs t) := h.al _
  have k0 : Hid (Wr.Kept [B] w (w.alloc (.cells #[.int .i64 0, .int .i64 0, .int .i64 0, .int .i64 0, .int .i64 0, .int .i64 0] 47))) := Kept.of (bal _ _)
  have b0 : Hid ((w.alloc (.cells #[.int .i64 0, .int .i64 0, .int .i64 0, .int .i64 0, .int .i64 0, .int .i64 0] 47)).heap[w.heap.size]? = some (.cells #[.int .i64 0, .int .i64 0, .int .i64 0, .int .i64 0, .int .i64 0, .int .i64 0] 47 (0, 0))) := heap_alloc_new w _
  clear h
  go_enter Try.func72, Try.ntmps72
  go_wp2_with fail
  refine Calls.mono (ofplan_any Rb B _ t _ p0.out) ?_
  rintro r w1 (⟨x, hx, rfl, k⟩ | ⟨v1, r1, hx, rfl, p, k⟩)
  · exact ⟨rfl, .inl ⟨x, by simp only [pPl, pbind, hx], rfl, k0.out.trans k⟩⟩
  have h1 : Hid (pU t zs = .inr (v1, r1)) := hx
  have p1 : Hid (PR w1 Rb B r1 t) := p
  have k1 : Hid (Wr.Kept [B] w w1) := k0.out.trans k
  have b1 : Hid (w1.heap[w.heap.size]? = some (.cells #[.int .i64 0, .int .i64 0, .int .i64 0, .int .i64 0, .int .i64 0, .int .i64 0] 47 (0, 0))) := (k.2.2.2.2 _ (lt_of_heap b0.out) (by simp; omega)).trans b0.out
  clear hx p k p0 k0 b0
  go_wp2_with fail
  refine Calls.mono (ofplan_any Rb B _ t _ p1.out) ?_
  rintro r w2 (⟨x, hx, rfl, k⟩ | ⟨v2, r2, hx, rfl, p, k⟩)
  · exact ⟨rfl, .inl ⟨x, by simp only [pPl, pbind, h1.out, hx], rfl, k1.out.trans k⟩⟩
  have h2 : Hid (pU t r1 = .inr (v2, r2)) := hx
  have p2 : Hid (PR w2 Rb B r2 t) := p
  have k2 : Hid (Wr.Kept [B] w w2) := k1.out.trans k
  have b2 : Hid (w2.heap[w.heap.size]? = some (.cells #[.int .i64 0, .int .i64 0, .int .i64 0, .int .i64 0, .int .i64 0, .int .i64 0] 47 (0, 0))) := (k.2.2.2.2 _ (lt_of_heap b1.out) (by simp; omega)).trans b1.out
  clear hx p k p1 k1 b1
  go_wp2_with fail
  refine Calls.mono (rspan_any Rb B _ t _ p2.out) ?_
  rintro r w3 (⟨x, hx, rfl, k⟩ | ⟨v3, v4, r3, hx, rfl, p, k⟩)
  · exact ⟨rfl, .inl ⟨x, by simp only [pPl, pbind, h1.out, h2.out, hx], rfl, k2.out.trans k⟩⟩
  have h3 : Hid (pSp t r2 = .inr ((v3, v4), r3)) := hx
  have p3 : Hid (PR w3 Rb B r3 t) := p
  have k3 : Hid (Wr.Kept [B] w w3) := k2.out.trans k
  have b3 : Hid (w3.heap[w.heap.size]? = some (.cells #[.int .i64 0, .int .i64 0, .int .i64 0, .int .i64 0, .int .i64 0, .int .i64 0] 47 (0, 0))) := (k.2.2.2.2 _ (lt_of_heap b2.out) (by simp; omega)).trans b2.out
  clear hx p k p2 k2 b2
  go_wp2_with fail
  refine Calls.mono (rspan_any Rb B _ t _ p3.out) ?_
  rintro r w4 (⟨x, hx, rfl, k⟩ | ⟨v5, v6, r4, hx, rfl, p, k⟩)
  · exact ⟨rfl, .inl ⟨x, by simp only [pPl, pbind, h1.out, h2.out, h3.out, hx], rfl, k3.out.trans k⟩⟩
  have h4 : Hid (pSp t r3 = .inr ((v5, v6), r4)) := hx
  have p4 : Hid (PR w4 Rb B r4 t) := p
  have k4 : Hid (Wr.Kept [B] w w4) := k3.out.trans k
  have b4 : Hid (w4.heap[w.heap.size]? = some (.cells #[.int .i64 0, .int .i64 0, .int .i64 0, .int .i64 0, .int .i64 0, .int .i64 0] 47 (0, 0))) := (k.2.2.2.2 _ (lt_of_heap b3.out) (by simp; omega)).trans b3.out
  clear hx p k p3 k3 b3
  have hP : Hid (pPl t zs = .inr ((v1, v2, v3, v4, v5, v6), r4)) := by simp only [Hid, pPl, pbind, h1.out, h2.out, h3.out, h4.out]
  have q : Hid (PR (w4.setRow w.heap.size #[.int .i64 v1, .int .i64 v2, .int .i64 v3, .int .i64 v4, .int .i64 v5, .int .i64 v6]) Rb B r4 t ∧ Wr.Kept [B] w (w4.setRow w.heap.size #[.int .i64 v1, .int .i64 v2, .int .i64 v3, .int .i64 v4, .int .i64 v5, .int .i64 v6]) ∧ (w4.setRow w.heap.size #[.int .i64 v1, .int .i64 v2, .int .i64 v3, .int .i64 v4, .int .i64 v5, .int .i64 v6]).heap[w.heap.size]? = some (.cells #[.int .i64 v1, .int .i64 v2, .int .i64 v3, .int .i64 v4, .int .i64 v5, .int .i64 v6] 47 (0, 0))) := ⟨p4.out.keep (below_row hlt), kept_row k4.out (Nat.le_refl _), setRow_heap _ _ _ _ _ _ b4.out⟩
  have bn := b4.out
  clear p4 k4 b4 h1 h2 h3 h4
  go_wp2_with (refine wpList_store_row rfl 47 (.tmp 2) (.tmp 11) rfl w.heap.size #[.int .i64 v1, .int .i64 v2, .int .i64 v3, .int .i64 v4, .int .i64 v5, .int .i64 v6] rfl rfl 47 _ bn (by kernel_rfl) rfl (by simp [Value.oneCell']) ?_)
  exact bodyPost_ret (results_cell_row Try.results72 _ _ w.heap.size 47 _ (0, 0) _ rfl q.out.2.2 Try.underlying47 rfl (by kernel_rfl)) rfl (.inr ⟨_, _, _, _, _, _, _, hP.out, rfl, q.out.1, q.out.2.1⟩)
end Go.Proofs.Ythlnhodfgmpabaa.Sl
