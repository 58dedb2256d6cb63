/- What lane's joined, note, multiplied, added, refused, trackOf return, and what they write. -/
import Derived.Test.YtgimnoehagfhhaaLanA
namespace Go.Proofs.Ytgimnoehagfhhaa
open Go.ChangeShapes Go.WideShapes Go.ChangeAt Go.RowKit
set_option linter.unusedVariables false
def Ty.cs (t : Ty) : Array Value := #[.int .i64 t.m, .int .i64 t.w, .int .i64 t.a, .int .i64 t.l, .int .i64 t.h]
theorem min2 (x y M : Int) (h : xmn x y = M) : ∀ (W : World) (ts : Array TypeId) (t : TypeId), (Builtin.min_ ts t #[.int .i64 x, .int .i64 y]).run Try.prog W = .ok (.int .i64 M) W := by
  intro W ts t
  subst h
  simp [Builtin.min_, Builtin.min2, xmn]
  repeat' split
  all_goals first | rfl | omega
theorem max2b (x y M : Int) (h : xmx x y = M) : ∀ (W : World) (ts : Array TypeId) (t : TypeId), (Builtin.max_ ts t #[.int .i64 x, .int .i64 y]).run Try.prog W = .ok (.int .i64 M) W := by
  intro W ts t
  subst h
  simp [Builtin.max_, Builtin.max2, xmx]
  repeat' split
  all_goals first | rfl | omega
/-- The reach of both. -/
def jn (a b : Int × Int × Int) : Int × Int × Int :=
  if a.1 = 0 then (if b.1 = 0 then (0, 0, 0) else b) else if b.1 = 0 then a else (wrap64 (a.1 + b.1), xmn a.2.1 b.2.1, xmx a.2.2 b.2.2)
theorem joined_any (a1 a2 a3 b1 b2 b3 j1 j2 j3 : Int) (W : World) (hj : jn (a1, a2, a3) (b1, b2, b3) = (j1, j2, j3)) :
    Calls Try.prog 35 #[.agg #[.int .i64 a1, .int .i64 a2, .int .i64 a3], .agg #[.int .i64 b1, .int .i64 b2, .int .i64 b3]] W fun e w' => e = .returned (.agg #[.int .i64 j1, .int .i64 j2, .int .i64 j3]) ∧ Below W.heap.size W w' := by
  have s0 := ((St.start W).new (c := #[.int .i64 a1, .int .i64 a2, .int .i64 a3]) (t := 65)).new (c := #[.int .i64 b1, .int .i64 b2, .int .i64 b3]) (t := 65) |>.new (c := #[.int .i64 j1, .int .i64 j2, .int .i64 j3]) (t := 65)
  have HS : Hid (Below W.heap.size W _) := s0.below
  clear s0
  unfold jn at hj
  simp only at hj
  by_cases ha : a1 = 0
  · rw [if_pos ha] at hj
    by_cases hb : b1 = 0
    · rw [if_pos hb] at hj
      cases hj
      subst ha hb
      go_enter Try.func35, Try.ntmps35
      go_wp2
      exact bodyPost_ret (v := .agg #[.int .i64 0, .int .i64 0, .int .i64 0]) (by simp [results, Try.results35, go_sem]) rfl ⟨rfl, HS.out⟩
    · rw [if_neg hb] at hj
      cases hj
      subst ha
      go_enter Try.func35, Try.ntmps35
      go_wp2
      exact bodyPost_ret (v := .agg #[.int .i64 b1, .int .i64 b2, .int .i64 b3]) (by simp [results, Try.results35, go_sem]) rfl ⟨rfl, HS.out⟩
  · rw [if_neg ha] at hj
    by_cases hb : b1 = 0
    · rw [if_pos hb] at hj
      cases hj
      subst hb
      go_enter Try.func35, Try.ntmps35
      go_wp2
      exact bodyPost_ret (v := .agg #[.int .i64 a1, .int .i64 a2, .int .i64 a3]) (by simp [results, Try.results35, go_sem]) rfl ⟨rfl, HS.out⟩
    · rw [if_neg hb] at hj
      cases hj
      obtain ⟨n1, hn1⟩ : ∃ n1, xmn a2 b2 = n1 := ⟨_, rfl⟩
      obtain ⟨n2, hn2⟩ : ∃ n2, xmx a3 b3 = n2 := ⟨_, rfl⟩
      have q1 := min2 a2 b2 n1 hn1
      have q2 := max2b a3 b3 n2 hn2
      rw [hn1, hn2] at HS ⊢
      clear hn1 hn2
      go_enter Try.func35, Try.ntmps35
      go_wp2
      exact bodyPost_ret (v := .agg #[.int .i64 (wrap64 (a1 + b1)), .int .i64 n1, .int .i64 n2]) (by simp [results, Try.results35, go_sem]) rfl ⟨rfl, HS.out⟩
theorem note_any (t : Ty) (b : Bool) (W0 W : World) (B : Nat) (l : List (Nat × Array Value × TypeId)) (s : St W0 W ((B, t.cs, 67) :: l)) (hl : ∀ x ∈ l, x.1 ≠ B) (hw : 0 ≤ t.w ∧ t.w ≤ 1000000000000000000) :
    Calls Try.prog 42 #[.pointer (some ⟨B, 0, none⟩), .bool b] W fun e w' => (∃ v, e = .returned v) ∧ St W0 w' ((B, ({ t with w := t.w + bb b } : Ty).cs, 67) :: l) := by
  obtain ⟨m, w, a, lo, hi⟩ := t
  simp only [Ty.cs] at s hw ⊢
  cases b with
  | true =>
    simp only [bb, if_true, Int.add_zero]
    go_enter Try.func42, Try.ntmps42
    go_wp2
    go_end0
    exact ⟨⟨_, rfl⟩, s⟩
  | false =>
    simp only [bb, Bool.false_eq_true, if_false]
    have HS : Hid (St W0 _ _) := s.set hl (i := 1) (v := .int .i64 (w + 1))
    simp only [List.setIfInBounds_toArray, List.set_cons_succ, List.set_cons_zero] at HS
    obtain ⟨c1, f1, z1, -⟩ := s.rules
    clear s
    go_enter Try.func42, Try.ntmps42
    go_wp2
    go_end0
    exact ⟨⟨_, rfl⟩, HS.out⟩
/-- Products of two lists. -/
def pz (zs ys : List Int) : List Int := List.zipWith (fun a b => a * b) zs ys
theorem pz_len {zs ys : List Int} (h : zs.length = ys.length) : (pz zs ys).length = zs.length := by unfold pz; simp [h]
theorem pz_at {zs ys : List Int} {k : Nat} {c d : Int} (h : zs.drop k = c :: zs.drop (k + 1)) (g : ys.drop k = d :: ys.drop (k + 1)) : (pz zs ys).drop k = c * d :: (pz zs ys).drop (k + 1) := by
  unfold pz; rw [List.drop_zipWith, List.drop_zipWith, h, g]; simp
def BD : Int := 1000000000000000
set_option maxHeartbeats 1000000 in
theorem lmd_i16 (t : Ty) (a b : Int) (W0 W : World) (B : Nat) (l : List (Nat × Array Value × TypeId)) (s : St W0 W ((B, t.cs, 67) :: l)) (hl : ∀ x ∈ l, x.1 ≠ B) (ht : t.ok BD) (ha : -32768 ≤ a ∧ a ≤ 32767) (hb : -32768 ≤ b ∧ b ≤ 32767) :
    Calls Try.prog 44 #[.pointer (some ⟨B, 0, none⟩), .int .i16 a, .int .i16 b] W fun e w' => e = .returned (.int .i16 (wrapN 32768 (a * b))) ∧ St W0 w' ((B, (t.mu 32768 (a * b)).cs, 67) :: l) := by
  have HF : Hid (∀ w, Calls Try.prog 10 #[.int .i16 a, .int .i16 b] w fun e w' => e = .returned (.tuple #[.int .i16 (wrapN 32768 (a * b)), .bool (fitsN 32768 (a * b))]) ∧ w' = w) := fun w => lmul_i16 a b w ha hb
  generalize a * b = p at HF ⊢
  obtain ⟨h1, h2, -⟩ := ht
  unfold BD at h1 h2
  obtain ⟨m, w, c, lo, hi⟩ := t
  simp only at h1 h2
  have s1 := s.set hl (i := 0) (v := .int .i64 (m + 1))
  simp only [Ty.cs, List.setIfInBounds_toArray, List.set_cons_zero] at s1
  obtain ⟨c1, f1, z1, -⟩ := s.rules
  simp only [Ty.cs] at c1
  have HN : Hid (∀ w2, St W0 w2 ((B, (⟨m + 1, w, c, lo, hi⟩ : Ty).cs, 67) :: l) → Calls Try.prog 42 #[.pointer (some ⟨B, 0, none⟩), .bool (fitsN 32768 p)] w2 fun e w' => (∃ v, e = .returned v) ∧ St W0 w' ((B, ((⟨m, w, c, lo, hi⟩ : Ty).mu 32768 p).cs, 67) :: l)) := fun w2 s2 => note_any ⟨m + 1, w, c, lo, hi⟩ (fitsN 32768 p) W0 w2 B l s2 hl (by simp only; omega)
  generalize Ty.mu 32768 ⟨m, w, c, lo, hi⟩ p = T at HN ⊢
  generalize wrapN 32768 p = V at HF ⊢
  generalize fitsN 32768 p = b at HF HN ⊢
  have HS : Hid (St W0 _ _) := s1
  clear s s1
  go_enter Try.func44, Try.ntmps44
  go_wp2_with fail
  refine (HF.out _).mono ?_
  rintro e w' ⟨rfl, rfl⟩
  go_wp2_with fail
  refine (HN.out _ HS.out).mono ?_
  rintro e w' ⟨⟨v, rfl⟩, hs⟩
  clear c1 f1
  go_wp2
  go_ret
  exact ⟨rfl, hs⟩
set_option maxHeartbeats 1000000 in
theorem lmd_i32 (t : Ty) (a b : Int) (W0 W : World) (B : Nat) (l : List (Nat × Array Value × TypeId)) (s : St W0 W ((B, t.cs, 67) :: l)) (hl : ∀ x ∈ l, x.1 ≠ B) (ht : t.ok BD) (ha : -2147483648 ≤ a ∧ a ≤ 2147483647) (hb : -2147483648 ≤ b ∧ b ≤ 2147483647) :
    Calls Try.prog 39 #[.pointer (some ⟨B, 0, none⟩), .int .i32 a, .int .i32 b] W fun e w' => e = .returned (.int .i32 (wrapN 2147483648 (a * b))) ∧ St W0 w' ((B, (t.mu 2147483648 (a * b)).cs, 67) :: l) := by
  have HF : Hid (∀ w, Calls Try.prog 12 #[.int .i32 a, .int .i32 b] w fun e w' => e = .returned (.tuple #[.int .i32 (wrapN 2147483648 (a * b)), .bool (fitsN 2147483648 (a * b))]) ∧ w' = w) := fun w => lmul_i32 a b w ha hb
  generalize a * b = p at HF ⊢
  obtain ⟨h1, h2, -⟩ := ht
  unfold BD at h1 h2
  obtain ⟨m, w, c, lo, hi⟩ := t
  simp only at h1 h2
  have s1 := s.set hl (i := 0) (v := .int .i64 (m + 1))
  simp only [Ty.cs, List.setIfInBounds_toArray, List.set_cons_zero] at s1
  obtain ⟨c1, f1, z1, -⟩ := s.rules
  simp only [Ty.cs] at c1
  have HN : Hid (∀ w2, St W0 w2 ((B, (⟨m + 1, w, c, lo, hi⟩ : Ty).cs, 67) :: l) → Calls Try.prog 42 #[.pointer (some ⟨B, 0, none⟩), .bool (fitsN 2147483648 p)] w2 fun e w' => (∃ v, e = .returned v) ∧ St W0 w' ((B, ((⟨m, w, c, lo, hi⟩ : Ty).mu 2147483648 p).cs, 67) :: l)) := fun w2 s2 => note_any ⟨m + 1, w, c, lo, hi⟩ (fitsN 2147483648 p) W0 w2 B l s2 hl (by simp only; omega)
  generalize Ty.mu 2147483648 ⟨m, w, c, lo, hi⟩ p = T at HN ⊢
  generalize wrapN 2147483648 p = V at HF ⊢
  generalize fitsN 2147483648 p = b at HF HN ⊢
  have HS : Hid (St W0 _ _) := s1
  clear s s1
  go_enter Try.func39, Try.ntmps39
  go_wp2_with fail
  refine (HF.out _).mono ?_
  rintro e w' ⟨rfl, rfl⟩
  go_wp2_with fail
  refine (HN.out _ HS.out).mono ?_
  rintro e w' ⟨⟨v, rfl⟩, hs⟩
  clear c1 f1
  go_wp2
  go_ret
  exact ⟨rfl, hs⟩
theorem jn_ad (N : Int) (t : Ty) (x : Int) (h : 0 ≤ t.a ∧ t.a ≤ BD) : jn (t.a, t.l, t.h) (1, wrapN N x, wrapN N x) = ((t.ad N x).a, (t.ad N x).l, (t.ad N x).h) := by
  unfold BD at h
  unfold jn Ty.ad
  simp only
  by_cases g : t.a = 0
  · rw [if_pos g, if_pos g, if_pos g, if_neg (by omega), g]; rfl
  · rw [if_neg g, if_neg g, if_neg g, if_neg (by omega), show wrap64 (t.a + 1) = t.a + 1 by unfold wrap64; omega]
set_option maxHeartbeats 1000000 in
theorem lad_i16 (t : Ty) (a b : Int) (W0 W : World) (B : Nat) (l : List (Nat × Array Value × TypeId)) (s : St W0 W ((B, t.cs, 67) :: l)) (hl : ∀ x ∈ l, x.1 ≠ B) (ht : t.ok BD) (ha : -32768 ≤ a ∧ a ≤ 32767) (hb : -32768 ≤ b ∧ b ≤ 32767) :
    Calls Try.prog 43 #[.pointer (some ⟨B, 0, none⟩), .int .i16 a, .int .i16 b] W fun e w' => e = .returned (.int .i16 (wrapN 32768 (a + b))) ∧ St W0 w' ((B, (t.ad 32768 (a + b)).cs, 67) :: l) := by
  have HF : Hid (∀ w, Calls Try.prog 9 #[.int .i16 a, .int .i16 b] w fun e w' => e = .returned (.tuple #[.int .i16 (wrapN 32768 (a + b)), .bool (fitsN 32768 (a + b))]) ∧ w' = w) := fun w => ladd_i16 a b w ha hb
  generalize a + b = p at HF ⊢
  have hV := wrapN_bd (N := 32768) (by omega) p
  obtain ⟨-, h2, h3, -⟩ := ht
  have HJ : Hid (∀ w, _) := fun w => joined_any t.a t.l t.h 1 (wrapN 32768 p) (wrapN 32768 p) _ _ _ w (jn_ad 32768 t p h3)
  unfold BD at h2 h3
  have HN : Hid (∀ w2, St W0 w2 ((B, #[.int .i64 t.m, .int .i64 t.w, .int .i64 (t.ad 32768 p).a, .int .i64 (t.ad 32768 p).l, .int .i64 (t.ad 32768 p).h], 67) :: l) → Calls Try.prog 42 #[.pointer (some ⟨B, 0, none⟩), .bool (fitsN 32768 p)] w2 fun e w' => (∃ v, e = .returned v) ∧ St W0 w' ((B, (t.ad 32768 p).cs, 67) :: l)) := fun w2 s2 => note_any ⟨t.m, t.w, (t.ad 32768 p).a, (t.ad 32768 p).l, (t.ad 32768 p).h⟩ (fitsN 32768 p) W0 w2 B l s2 hl (by simp only; omega)
  obtain ⟨m, w, c, lo, hi⟩ := t
  simp only at h2 h3 HJ HN
  generalize Ty.ad 32768 ⟨m, w, c, lo, hi⟩ p = T at HJ HN ⊢
  generalize wrapN 32768 p = V at HF HJ hV ⊢
  generalize fitsN 32768 p = bo at HF HN ⊢
  simp only [Ty.cs] at s
  obtain ⟨c1, f1, z1, -⟩ := s.rules
  obtain ⟨T1, T2, T3, T4, T5⟩ := T
  have HS : Hid (St W0 W _) := s
  clear s
  go_enter Try.func43, Try.ntmps43
  go_wp2_with fail
  refine (HF.out _).mono ?_
  rintro e w' ⟨rfl, rfl⟩
  go_wp2_with fail
  refine (HJ.out _).mono ?_
  rintro e w2 ⟨rfl, hb2⟩
  have s2 := HS.out.call hb2
  clear c1 f1 z1 hb2
  obtain ⟨c1, f1, z1, -⟩ := s2.rules
  have HS2 : Hid (St W0 _ _) := ((s2.set hl (i := 2) (v := .int .i64 T3)).set hl (i := 3) (v := .int .i64 T4)).set hl (i := 4) (v := .int .i64 T5)
  simp only [List.setIfInBounds_toArray, List.set_cons_succ, List.set_cons_zero] at HS2
  clear s2
  go_wp2_with fail
  refine (HN.out _ HS2.out).mono ?_
  rintro e w' ⟨⟨v, rfl⟩, hs⟩
  clear c1 f1
  go_wp2
  go_ret
  exact ⟨rfl, hs⟩
set_option maxHeartbeats 1000000 in
theorem lad_i32 (t : Ty) (a b : Int) (W0 W : World) (B : Nat) (l : List (Nat × Array Value × TypeId)) (s : St W0 W ((B, t.cs, 67) :: l)) (hl : ∀ x ∈ l, x.1 ≠ B) (ht : t.ok BD) (ha : -2147483648 ≤ a ∧ a ≤ 2147483647) (hb : -2147483648 ≤ b ∧ b ≤ 2147483647) :
    Calls Try.prog 38 #[.pointer (some ⟨B, 0, none⟩), .int .i32 a, .int .i32 b] W fun e w' => e = .returned (.int .i32 (wrapN 2147483648 (a + b))) ∧ St W0 w' ((B, (t.ad 2147483648 (a + b)).cs, 67) :: l) := by
  have HF : Hid (∀ w, Calls Try.prog 11 #[.int .i32 a, .int .i32 b] w fun e w' => e = .returned (.tuple #[.int .i32 (wrapN 2147483648 (a + b)), .bool (fitsN 2147483648 (a + b))]) ∧ w' = w) := fun w => ladd_i32 a b w ha hb
  generalize a + b = p at HF ⊢
  have hV := wrapN_bd (N := 2147483648) (by omega) p
  obtain ⟨-, h2, h3, -⟩ := ht
  have HJ : Hid (∀ w, _) := fun w => joined_any t.a t.l t.h 1 (wrapN 2147483648 p) (wrapN 2147483648 p) _ _ _ w (jn_ad 2147483648 t p h3)
  unfold BD at h2 h3
  have HN : Hid (∀ w2, St W0 w2 ((B, #[.int .i64 t.m, .int .i64 t.w, .int .i64 (t.ad 2147483648 p).a, .int .i64 (t.ad 2147483648 p).l, .int .i64 (t.ad 2147483648 p).h], 67) :: l) → Calls Try.prog 42 #[.pointer (some ⟨B, 0, none⟩), .bool (fitsN 2147483648 p)] w2 fun e w' => (∃ v, e = .returned v) ∧ St W0 w' ((B, (t.ad 2147483648 p).cs, 67) :: l)) := fun w2 s2 => note_any ⟨t.m, t.w, (t.ad 2147483648 p).a, (t.ad 2147483648 p).l, (t.ad 2147483648 p).h⟩ (fitsN 2147483648 p) W0 w2 B l s2 hl (by simp only; omega)
  obtain ⟨m, w, c, lo, hi⟩ := t
  simp only at h2 h3 HJ HN
  generalize Ty.ad 2147483648 ⟨m, w, c, lo, hi⟩ p = T at HJ HN ⊢
  generalize wrapN 2147483648 p = V at HF HJ hV ⊢
  generalize fitsN 2147483648 p = bo at HF HN ⊢
  simp only [Ty.cs] at s
  obtain ⟨c1, f1, z1, -⟩ := s.rules
  obtain ⟨T1, T2, T3, T4, T5⟩ := T
  have HS : Hid (St W0 W _) := s
  clear s
  go_enter Try.func38, Try.ntmps38
  go_wp2_with fail
  refine (HF.out _).mono ?_
  rintro e w' ⟨rfl, rfl⟩
  go_wp2_with fail
  refine (HJ.out _).mono ?_
  rintro e w2 ⟨rfl, hb2⟩
  have s2 := HS.out.call hb2
  clear c1 f1 z1 hb2
  obtain ⟨c1, f1, z1, -⟩ := s2.rules
  have HS2 : Hid (St W0 _ _) := ((s2.set hl (i := 2) (v := .int .i64 T3)).set hl (i := 3) (v := .int .i64 T4)).set hl (i := 4) (v := .int .i64 T5)
  simp only [List.setIfInBounds_toArray, List.set_cons_succ, List.set_cons_zero] at HS2
  clear s2
  go_wp2_with fail
  refine (HN.out _ HS2.out).mono ?_
  rintro e w' ⟨⟨v, rfl⟩, hs⟩
  clear c1 f1
  go_wp2
  go_ret
  exact ⟨rfl, hs⟩
end Go.Proofs.Ytgimnoehagfhhaa
