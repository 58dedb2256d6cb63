/- What the document's registers do (Dots), and its Dot. -/
import Derived.Test.YtgimnoehagfhhaaLanF
import Derived.Deep.RegionWith
import Derived.Deep.DeepCutAuto
namespace Go.Proofs.Ytgimnoehagfhhaa
open Go.ChangeShapes Go.WideShapes Go.ChangeAt Go.RowKit
set_option linter.unusedVariables false
/-- A wrap, counted or not. -/
theorem rwr_any (c0 c1 c2 c3 c5 c6 c7 c8 : Value) (n : Int) (b : Bool) (W0 W : World) (B : Nat) (l : List (Nat × Array Value × TypeId)) (s : St W0 W ((B, #[c0, c1, c2, c3, .int .i64 n, c5, c6, c7, c8], 73) :: l)) (hl : ∀ x ∈ l, x.1 ≠ B) (hn : -1000000000000000000 ≤ n ∧ n ≤ 1000000000000000000) :
    Calls Try.prog 41 #[.pointer (some ⟨B, 0, none⟩), .bool (!b)] W fun e w' => (∃ v, e = .returned v) ∧ St W0 w' ((B, #[c0, c1, c2, c3, .int .i64 (n + bb b), c5, c6, c7, c8], 73) :: l) := by
  cases b with
  | true =>
    simp only [bb, if_true, Int.add_zero, Bool.not_true]
    go_enter Try.func41, Try.ntmps41
    go_wp2
    go_end0
    exact ⟨⟨_, rfl⟩, s⟩
  | false =>
    simp only [bb, Bool.false_eq_true, if_false, Bool.not_false]
    have HS : Hid (St W0 _ _) := s.set hl (i := 4) (v := .int .i64 (n + 1))
    simp only [List.setIfInBounds_toArray, List.set_cons_succ, List.set_cons_zero] at HS
    obtain ⟨c1, f1, z1, -⟩ := s.rules
    clear s
    go_enter Try.func41, Try.ntmps41
    go_wp2
    go_end0
    exact ⟨⟨_, rfl⟩, HS.out⟩
theorem bw_eq (N x : Int) : bb (fitsN N x) = bw N x := rfl
set_option maxHeartbeats 2000000 in
theorem rtm_16 (m a m2 a2 n lo hi lo2 hi2 x y : Int) (W0 W : World) (B : Nat) (l : List (Nat × Array Value × TypeId)) (s : St W0 W ((B, #[.int .i64 m, .int .i64 a, .int .i64 m2, .int .i64 a2, .int .i64 n, .int .i64 lo, .int .i64 hi, .int .i64 lo2, .int .i64 hi2], 73) :: l)) (hl : ∀ x ∈ l, x.1 ≠ B)
    (hm : 0 ≤ m ∧ m ≤ BD) (hm2 : 0 ≤ m2 ∧ m2 ≤ BD) (hn : 0 ≤ n ∧ n ≤ 4 * BD) (ha : -2147483648 ≤ x ∧ x ≤ 2147483647) (hb : -2147483648 ≤ y ∧ y ≤ 2147483647) :
    Calls Try.prog 34 #[.pointer (some ⟨B, 0, none⟩), .int .i64 16, .int .i64 x, .int .i64 y] W fun e w' => e = .returned (.int .i64 (wrapN 32768 (x * y))) ∧ St W0 w' ((B, #[.int .i64 (m + 1), .int .i64 a, .int .i64 (m2), .int .i64 a2, .int .i64 (n + bw 32768 (x * y)), .int .i64 lo, .int .i64 hi, .int .i64 lo2, .int .i64 hi2], 73) :: l) := by
  unfold BD at hm hm2 hn
  have HF : Hid (∀ w, _) := fun w => refmul_16 x y w ha hb
  rw [← bw_eq]
  generalize x * y = p at HF ⊢
  have HN : Hid (∀ w2, St W0 w2 ((B, #[.int .i64 m, .int .i64 a, .int .i64 m2, .int .i64 a2, .int .i64 n, .int .i64 lo, .int .i64 hi, .int .i64 lo2, .int .i64 hi2], 73) :: l) → _) := fun w2 s2 => rwr_any (.int .i64 m) (.int .i64 a) (.int .i64 m2) (.int .i64 a2) (.int .i64 lo) (.int .i64 hi) (.int .i64 lo2) (.int .i64 hi2) n (fitsN 32768 p) W0 w2 B l s2 hl (by omega)
  generalize n + bb (fitsN 32768 p) = n' at HN ⊢
  generalize wrapN 32768 p = V at HF ⊢
  generalize fitsN 32768 p = bo at HF HN ⊢
  have HS : Hid (St W0 W _) := s
  clear s
  go_enter Try.func34, Try.ntmps34
  go_wp2_with fail
  refine (HF.out _).mono ?_
  rintro e w' ⟨rfl, rfl⟩
  go_wp2_with fail
  refine (HN.out _ HS.out).mono ?_
  rintro e w2 ⟨⟨v, rfl⟩, s2⟩
  clear HN HS HF
  obtain ⟨c1, f1, z1, -⟩ := s2.rules
  have s3 := s2.set hl (i := 0) (v := .int .i64 (m + 1))
  simp only [List.setIfInBounds_toArray, List.set_cons_zero] at s3
  have HS3 : Hid (St W0 _ _) := s3
  clear s2 s3
  go_wp2
  go_ret
  exact ⟨rfl, HS3.out⟩
set_option maxHeartbeats 2000000 in
theorem rtm_32 (m a m2 a2 n lo hi lo2 hi2 x y : Int) (W0 W : World) (B : Nat) (l : List (Nat × Array Value × TypeId)) (s : St W0 W ((B, #[.int .i64 m, .int .i64 a, .int .i64 m2, .int .i64 a2, .int .i64 n, .int .i64 lo, .int .i64 hi, .int .i64 lo2, .int .i64 hi2], 73) :: l)) (hl : ∀ x ∈ l, x.1 ≠ B)
    (hm : 0 ≤ m ∧ m ≤ BD) (hm2 : 0 ≤ m2 ∧ m2 ≤ BD) (hn : 0 ≤ n ∧ n ≤ 4 * BD) (ha : -2147483648 ≤ x ∧ x ≤ 2147483647) (hb : -2147483648 ≤ y ∧ y ≤ 2147483647) :
    Calls Try.prog 34 #[.pointer (some ⟨B, 0, none⟩), .int .i64 32, .int .i64 x, .int .i64 y] W fun e w' => e = .returned (.int .i64 (wrapN 2147483648 (x * y))) ∧ St W0 w' ((B, #[.int .i64 (m), .int .i64 a, .int .i64 (m2 + 1), .int .i64 a2, .int .i64 (n + bw 2147483648 (x * y)), .int .i64 lo, .int .i64 hi, .int .i64 lo2, .int .i64 hi2], 73) :: l) := by
  unfold BD at hm hm2 hn
  have HF : Hid (∀ w, _) := fun w => refmul_32 x y w ha hb
  rw [← bw_eq]
  generalize x * y = p at HF ⊢
  have HN : Hid (∀ w2, St W0 w2 ((B, #[.int .i64 m, .int .i64 a, .int .i64 m2, .int .i64 a2, .int .i64 n, .int .i64 lo, .int .i64 hi, .int .i64 lo2, .int .i64 hi2], 73) :: l) → _) := fun w2 s2 => rwr_any (.int .i64 m) (.int .i64 a) (.int .i64 m2) (.int .i64 a2) (.int .i64 lo) (.int .i64 hi) (.int .i64 lo2) (.int .i64 hi2) n (fitsN 2147483648 p) W0 w2 B l s2 hl (by omega)
  generalize n + bb (fitsN 2147483648 p) = n' at HN ⊢
  generalize wrapN 2147483648 p = V at HF ⊢
  generalize fitsN 2147483648 p = bo at HF HN ⊢
  have HS : Hid (St W0 W _) := s
  clear s
  go_enter Try.func34, Try.ntmps34
  go_wp2_with fail
  refine (HF.out _).mono ?_
  rintro e w' ⟨rfl, rfl⟩
  go_wp2_with fail
  refine (HN.out _ HS.out).mono ?_
  rintro e w2 ⟨⟨v, rfl⟩, s2⟩
  clear HN HS HF
  obtain ⟨c1, f1, z1, -⟩ := s2.rules
  have s3 := s2.set hl (i := 2) (v := .int .i64 (m2 + 1))
  simp only [List.setIfInBounds_toArray, List.set_cons_succ, List.set_cons_zero] at s3
  have HS3 : Hid (St W0 _ _) := s3
  clear s2 s3
  go_wp2
  go_ret
  exact ⟨rfl, HS3.out⟩
theorem xmn_same (a : Int) : xmn a a = a := by unfold xmn; split <;> rfl
theorem xmx_same (a : Int) : xmx a a = a := by unfold xmx; split <;> rfl
/-- The least and the greatest sum so far. -/
def nlo (a lo V : Int) : Int := if a = 0 then V else xmn lo V
def nhi (a hi V : Int) : Int := if a = 0 then V else xmx hi V
set_option maxHeartbeats 4000000 in
theorem rpl_16 (m a m2 a2 n lo hi lo2 hi2 x y : Int) (W0 W : World) (B : Nat) (l : List (Nat × Array Value × TypeId)) (s : St W0 W ((B, #[.int .i64 m, .int .i64 a, .int .i64 m2, .int .i64 a2, .int .i64 n, .int .i64 lo, .int .i64 hi, .int .i64 lo2, .int .i64 hi2], 73) :: l)) (hl : ∀ x ∈ l, x.1 ≠ B)
    (hm : 0 ≤ a ∧ a ≤ BD) (hm2 : 0 ≤ a2 ∧ a2 ≤ BD) (hn : 0 ≤ n ∧ n ≤ 4 * BD) (ha : -2147483648 ≤ x ∧ x ≤ 2147483647) (hb : -2147483648 ≤ y ∧ y ≤ 2147483647) :
    Calls Try.prog 33 #[.pointer (some ⟨B, 0, none⟩), .int .i64 16, .int .i64 x, .int .i64 y] W fun e w' => e = .returned (.int .i64 (wrapN 32768 (x + y))) ∧ St W0 w' ((B, #[.int .i64 m, .int .i64 (a + 1), .int .i64 m2, .int .i64 (a2), .int .i64 (n + bw 32768 (x + y)), .int .i64 (nlo a lo <| wrapN 32768 <| x + y), .int .i64 (nhi a hi <| wrapN 32768 <| x + y), .int .i64 (lo2), .int .i64 (hi2)], 73) :: l) := by
  unfold BD at hm hm2 hn
  have HF : Hid (∀ w, _) := fun w => refadd_16 x y w ha hb
  rw [← bw_eq]
  generalize x + y = p at HF ⊢
  have HN : Hid (∀ w2, St W0 w2 ((B, #[.int .i64 m, .int .i64 a, .int .i64 m2, .int .i64 a2, .int .i64 n, .int .i64 lo, .int .i64 hi, .int .i64 lo2, .int .i64 hi2], 73) :: l) → _) := fun w2 s2 => rwr_any (.int .i64 m) (.int .i64 a) (.int .i64 m2) (.int .i64 a2) (.int .i64 lo) (.int .i64 hi) (.int .i64 lo2) (.int .i64 hi2) n (fitsN 32768 p) W0 w2 B l s2 hl (by omega)
  generalize n + bb (fitsN 32768 p) = n' at HN ⊢
  generalize wrapN 32768 p = V at HF ⊢
  generalize fitsN 32768 p = bo at HF HN ⊢
  have HS : Hid (St W0 W _) := s
  clear s
  by_cases h0 : a = 0
  · subst h0
    simp only [nlo, nhi, if_true]
    have q1 := min2 V V V (xmn_same V)
    have q2 := max2b V V V (xmx_same V)
    go_enter Try.func33, Try.ntmps33
    go_wp2_with fail
    refine (HF.out _).mono ?_
    rintro e w' ⟨rfl, rfl⟩
    go_wp2_with fail
    refine (HN.out _ HS.out).mono ?_
    rintro e w2 ⟨⟨v, rfl⟩, s2⟩
    clear HN HS HF
    obtain ⟨c1, f1, z1, -⟩ := s2.rules
    have s3 := ((((s2.set hl (i := 5) (v := .int .i64 V)).set hl (i := 6) (v := .int .i64 V)).set hl (i := 1) (v := .int .i64 1)).set hl (i := 5) (v := .int .i64 V)).set hl (i := 6) (v := .int .i64 V)
    simp only [List.setIfInBounds_toArray, List.set_cons_succ, List.set_cons_zero] at s3
    have HS3 : Hid (St W0 _ _) := s3
    clear s2 s3
    go_wp2
    go_ret
    exact ⟨rfl, HS3.out⟩
  · simp only [nlo, nhi, h0, if_false]
    obtain ⟨L, hL⟩ : ∃ L, xmn lo V = L := ⟨_, rfl⟩
    obtain ⟨H, hH⟩ : ∃ H, xmx hi V = H := ⟨_, rfl⟩
    have q1 := min2 lo V L hL
    have q2 := max2b hi V H hH
    rw [hL, hH]
    clear hL hH
    go_enter Try.func33, Try.ntmps33
    go_wp2_with fail
    refine (HF.out _).mono ?_
    rintro e w' ⟨rfl, rfl⟩
    go_wp2_with fail
    refine (HN.out _ HS.out).mono ?_
    rintro e w2 ⟨⟨v, rfl⟩, s2⟩
    clear HN HS HF
    obtain ⟨c1, f1, z1, -⟩ := s2.rules
    have s3 := ((s2.set hl (i := 1) (v := .int .i64 (a + 1))).set hl (i := 5) (v := .int .i64 L)).set hl (i := 6) (v := .int .i64 H)
    simp only [List.setIfInBounds_toArray, List.set_cons_succ, List.set_cons_zero] at s3
    have HS3 : Hid (St W0 _ _) := s3
    clear s2 s3
    go_wp2
    go_ret
    exact ⟨rfl, HS3.out⟩
set_option maxHeartbeats 4000000 in
theorem rpl_32 (m a m2 a2 n lo hi lo2 hi2 x y : Int) (W0 W : World) (B : Nat) (l : List (Nat × Array Value × TypeId)) (s : St W0 W ((B, #[.int .i64 m, .int .i64 a, .int .i64 m2, .int .i64 a2, .int .i64 n, .int .i64 lo, .int .i64 hi, .int .i64 lo2, .int .i64 hi2], 73) :: l)) (hl : ∀ x ∈ l, x.1 ≠ B)
    (hm : 0 ≤ a ∧ a ≤ BD) (hm2 : 0 ≤ a2 ∧ a2 ≤ BD) (hn : 0 ≤ n ∧ n ≤ 4 * BD) (ha : -2147483648 ≤ x ∧ x ≤ 2147483647) (hb : -2147483648 ≤ y ∧ y ≤ 2147483647) :
    Calls Try.prog 33 #[.pointer (some ⟨B, 0, none⟩), .int .i64 32, .int .i64 x, .int .i64 y] W fun e w' => e = .returned (.int .i64 (wrapN 2147483648 (x + y))) ∧ St W0 w' ((B, #[.int .i64 m, .int .i64 (a), .int .i64 m2, .int .i64 (a2 + 1), .int .i64 (n + bw 2147483648 (x + y)), .int .i64 (lo), .int .i64 (hi), .int .i64 (nlo a2 lo2 <| wrapN 2147483648 <| x + y), .int .i64 (nhi a2 hi2 <| wrapN 2147483648 <| x + y)], 73) :: l) := by
  unfold BD at hm hm2 hn
  have HF : Hid (∀ w, _) := fun w => refadd_32 x y w ha hb
  rw [← bw_eq]
  generalize x + y = p at HF ⊢
  have HN : Hid (∀ w2, St W0 w2 ((B, #[.int .i64 m, .int .i64 a, .int .i64 m2, .int .i64 a2, .int .i64 n, .int .i64 lo, .int .i64 hi, .int .i64 lo2, .int .i64 hi2], 73) :: l) → _) := fun w2 s2 => rwr_any (.int .i64 m) (.int .i64 a) (.int .i64 m2) (.int .i64 a2) (.int .i64 lo) (.int .i64 hi) (.int .i64 lo2) (.int .i64 hi2) n (fitsN 2147483648 p) W0 w2 B l s2 hl (by omega)
  generalize n + bb (fitsN 2147483648 p) = n' at HN ⊢
  generalize wrapN 2147483648 p = V at HF ⊢
  generalize fitsN 2147483648 p = bo at HF HN ⊢
  have HS : Hid (St W0 W _) := s
  clear s
  by_cases h0 : a2 = 0
  · subst h0
    simp only [nlo, nhi, if_true]
    have q1 := min2 V V V (xmn_same V)
    have q2 := max2b V V V (xmx_same V)
    go_enter Try.func33, Try.ntmps33
    go_wp2_with fail
    refine (HF.out _).mono ?_
    rintro e w' ⟨rfl, rfl⟩
    go_wp2_with fail
    refine (HN.out _ HS.out).mono ?_
    rintro e w2 ⟨⟨v, rfl⟩, s2⟩
    clear HN HS HF
    obtain ⟨c1, f1, z1, -⟩ := s2.rules
    have s3 := ((((s2.set hl (i := 7) (v := .int .i64 V)).set hl (i := 8) (v := .int .i64 V)).set hl (i := 3) (v := .int .i64 1)).set hl (i := 7) (v := .int .i64 V)).set hl (i := 8) (v := .int .i64 V)
    simp only [List.setIfInBounds_toArray, List.set_cons_succ, List.set_cons_zero] at s3
    have HS3 : Hid (St W0 _ _) := s3
    clear s2 s3
    go_wp2
    go_ret
    exact ⟨rfl, HS3.out⟩
  · simp only [nlo, nhi, h0, if_false]
    obtain ⟨L, hL⟩ : ∃ L, xmn lo2 V = L := ⟨_, rfl⟩
    obtain ⟨H, hH⟩ : ∃ H, xmx hi2 V = H := ⟨_, rfl⟩
    have q1 := min2 lo2 V L hL
    have q2 := max2b hi2 V H hH
    rw [hL, hH]
    clear hL hH
    go_enter Try.func33, Try.ntmps33
    go_wp2_with fail
    refine (HF.out _).mono ?_
    rintro e w' ⟨rfl, rfl⟩
    go_wp2_with fail
    refine (HN.out _ HS.out).mono ?_
    rintro e w2 ⟨⟨v, rfl⟩, s2⟩
    clear HN HS HF
    obtain ⟨c1, f1, z1, -⟩ := s2.rules
    have s3 := ((s2.set hl (i := 3) (v := .int .i64 (a2 + 1))).set hl (i := 7) (v := .int .i64 L)).set hl (i := 8) (v := .int .i64 H)
    simp only [List.setIfInBounds_toArray, List.set_cons_succ, List.set_cons_zero] at s3
    have HS3 : Hid (St W0 _ _) := s3
    clear s2 s3
    go_wp2
    go_ret
    exact ⟨rfl, HS3.out⟩
end Go.Proofs.Ytgimnoehagfhhaa
