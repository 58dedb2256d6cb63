/- What Valid and Apply of package fixq return: each for every argument that fits its type. -/
import Derived.Test.YtdpfnlefaegmeaaFixA
namespace Go.Proofs.Ytdpfnlefaegmeaa
open Go.ChangeShapes Go.WideShapes Go.ChangeAt Go.RowKit
theorem bcell {W w1 : World} (hb : Below W.heap.size W w1) : (∀ b o, b < W.heap.size → w1.cell? ⟨b, o, none⟩ = W.cell? ⟨b, o, none⟩) ∧ (∀ b o, b < W.heap.size → w1.frozen? ⟨b, o, none⟩ = W.frozen? ⟨b, o, none⟩) :=
  ⟨fun b o h => hb.cell (p := ⟨b, o, none⟩) h, fun b o h => hb.frozen (p := ⟨b, o, none⟩) h⟩
def scB (m s : Int) : Bool := decide (1 ≤ m ∧ m ≤ 2147483647 ∧ 0 ≤ s ∧ s ≤ 62)
def acB (a : Int) : Bool := decide (-4294967296 ≤ a ∧ a ≤ 4294967296)
def apV (a m s : Int) : Int := if scB m s = true then (if acB a = true then rq (a * m) (p2 s) else 0) else 0
def apE (a m s : Int) : Int := if scB m s = true then (if acB a = true then 0 else 10) else 20
theorem prod_bd (a m : Int) (a1 : -4294967296 ≤ a) (a2 : a ≤ 4294967296) (m1 : 1 ≤ m) (m2 : m ≤ 2147483647) : -9223372032559808512 ≤ a * m ∧ a * m ≤ 9223372032559808512 := by
  have h1 := Int.mul_le_mul_of_nonneg_right a1 (show 0 ≤ m by omega)
  have h2 := Int.mul_le_mul_of_nonneg_right a2 (show 0 ≤ m by omega)
  omega
theorem valid_any (m s : Int) (w : World) :
    Calls Try.prog 45 #[.agg #[.int .i64 m, .int .i64 s]] w fun e w' => e = .returned (.bool (scB m s)) ∧ Below w.heap.size w w' := by
  by_cases c1 : 1 ≤ m
  · by_cases c2 : m ≤ 2147483647
    · have HR : Hid (shB s = scB m s) := by unfold Hid shB scB; simp [c1, c2]
      go_enter Try.func45, Try.ntmps45
      go_wp2_with fail
      refine (reach_any _ _).mono ?_
      rintro e w' ⟨rfl, rfl⟩
      go_wp2
      go_ret
      exact ⟨retB HR.out, (Below.refl _ _).alloc (Nat.le_refl _) _⟩
    · have HR : Hid (false = scB m s) := by unfold Hid scB; simp [c2]
      go_enter Try.func45, Try.ntmps45
      go_wp2
      go_ret
      exact ⟨retB HR.out, (Below.refl _ _).alloc (Nat.le_refl _) _⟩
  · have HR : Hid (false = scB m s) := by unfold Hid scB; simp [c1]
    go_enter Try.func45, Try.ntmps45
    go_wp2
    go_ret
    exact ⟨retB HR.out, (Below.refl _ _).alloc (Nat.le_refl _) _⟩
theorem apply_any (a m s : Int) (w : World) :
    Calls Try.prog 39 #[.int .i64 a, .agg #[.int .i64 m, .int .i64 s]] w fun e w' => e = .returned (.tuple #[.int .i64 (apV a m s), .int .i64 (apE a m s)]) ∧ Below w.heap.size w w' := by
  cases hs : scB m s with
  | false =>
    have HV : Hid (apV a m s = 0) := by unfold Hid apV; rw [hs, if_neg (by decide)]
    have HE : Hid (apE a m s = 20) := by unfold Hid apE; rw [hs, if_neg (by decide)]
    rw [HV.out, HE.out]
    go_enter Try.func39, Try.ntmps39
    go_wp2_with fail
    refine (valid_any _ _ _).mono ?_
    rintro e w' ⟨rfl, hb⟩
    go_wp2
    go_ret2
    exact ⟨rfl, ((Below.refl _ _).alloc (Nat.le_refl _) _).trans (hb.mono (by simp))⟩
  | true =>
    cases ha : acB a with
    | false =>
      have HV : Hid (apV a m s = 0) := by unfold Hid apV; rw [hs, if_pos rfl, ha, if_neg (by decide)]
      have HE : Hid (apE a m s = 10) := by unfold Hid apE; rw [hs, if_pos rfl, ha, if_neg (by decide)]
      rw [HV.out, HE.out]
      have hn : ¬ (-4294967296 ≤ a ∧ a ≤ 4294967296) := by unfold acB at ha; simpa using ha
      by_cases c : a < -4294967296
      all_goals
        try have c' : 4294967296 < a := by omega
        clear hn
        go_enter Try.func39, Try.ntmps39
        go_wp2_with fail
        refine (valid_any _ _ _).mono ?_
        rintro e w' ⟨rfl, hb⟩
        go_wp2
        go_ret2
        exact ⟨rfl, ((Below.refl _ _).alloc (Nat.le_refl _) _).trans (hb.mono (by simp))⟩
    | true =>
      have HV : Hid (apV a m s = rq (a * m) (p2 s)) := by unfold Hid apV; rw [hs, if_pos rfl, ha, if_pos rfl]
      have HE : Hid (apE a m s = 0) := by unfold Hid apE; rw [hs, if_pos rfl, ha, if_pos rfl]
      rw [HV.out, HE.out]
      have hn : -4294967296 ≤ a ∧ a ≤ 4294967296 := by unfold acB at ha; simpa using ha
      have hm : 1 ≤ m ∧ m ≤ 2147483647 ∧ 0 ≤ s ∧ s ≤ 62 := by unfold scB at hs; simpa using hs
      obtain ⟨a1, a2⟩ := hn
      obtain ⟨m1, m2, s1, s2⟩ := hm
      have hp := prod_bd a m a1 a2 m1 m2
      have hi : I64 (a * m) := by unfold I64; omega
      obtain ⟨p1, p2'⟩ := hp
      have HS : Hid (shV (a * m) s = rq (a * m) (p2 s)) := by unfold Hid shV shB; rw [if_pos (by simp; omega)]
      have HT : Hid (shE s = 0) := by unfold Hid shE shB; rw [if_pos (by simp; omega)]
      go_enter Try.func39, Try.ntmps39
      go_wp2_with fail
      refine (valid_any _ _ _).mono ?_
      rintro e w' ⟨rfl, hb⟩
      obtain ⟨hc, hf⟩ := bcell hb
      go_wp2_with fail
      refine (shift_any _ _ _ hi).mono ?_
      rintro e w2 ⟨rfl, hb2⟩
      rw [HS.out, HT.out]
      go_wp2
      go_ret2
      exact ⟨rfl, ((Below.refl _ _).alloc (Nat.le_refl _) _).trans ((hb.mono (by simp)).trans (hb2.mono (by have := hb.size; simp at this; omega)))⟩
end Go.Proofs.Ytdpfnlefaegmeaa
