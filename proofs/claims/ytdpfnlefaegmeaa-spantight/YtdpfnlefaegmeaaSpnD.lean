/- What Add, Sub, Times of package span, and the document's, return: each for every argument that fits its type. -/
import Derived.Test.YtdpfnlefaegmeaaSpnB
import Derived.Test.YtdpfnlefaegmeaaNumD
namespace Go.Proofs.Ytdpfnlefaegmeaa
open Go.ChangeShapes Go.WideShapes Go.ChangeAt Go.RowKit
theorem srefends_any (a e b f : Int) (w : World) (he : e = 0 ∨ e = 10) (hf : f = 0 ∨ f = 10) :
    Calls Try.prog 36 #[.int .i64 a, .int .i64 e, .int .i64 b, .int .i64 f] w fun x w' => x = .returned (.tuple #[.agg #[.int .i64 (enR a e b f).1, .int .i64 (enR a e b f).2.1], .int .i64 (enR a e b f).2.2]) ∧ Below w.heap.size w w' := by
  unfold enR
  rcases he with rfl | rfl
  · rw [if_pos rfl]
    rcases hf with rfl | rfl
    · rw [if_pos rfl]
      go_enter Try.func36, Try.ntmps36
      go_wp2
      exact bodyPost_ret (v := .tuple #[.agg #[.int .i64 a, .int .i64 b], .int .i64 0]) (by simp [results, Try.results36, go_sem]) rfl ⟨rfl, (Below.refl _ _).alloc (Nat.le_refl _) _⟩
    · rw [if_neg (by decide)]
      go_enter Try.func36, Try.ntmps36
      go_wp2
      exact bodyPost_ret (v := .tuple #[.agg #[.int .i64 0, .int .i64 0], .int .i64 10]) (by simp [results, Try.results36, go_sem]) rfl ⟨rfl, (Below.refl _ _).alloc (Nat.le_refl _) _⟩
  · rw [if_neg (by decide)]
    go_enter Try.func36, Try.ntmps36
    go_wp2
    exact bodyPost_ret (v := .tuple #[.agg #[.int .i64 0, .int .i64 0], .int .i64 10]) (by simp [results, Try.results36, go_sem]) rfl ⟨rfl, (Below.refl _ _).alloc (Nat.le_refl _) _⟩
theorem okE_two (x : Int) : okE x = 0 ∨ okE x = 10 := by unfold okE; split <;> simp
def i2 (x y : Int) : Int × Int × Int := enR (okV x) (okE x) (okV y) (okE y)
theorem i2_both (x y : Int) : (i2 x y).2.2 = 0 ↔ I64 x ∧ I64 y := by
  unfold i2 enR okE okV I64
  by_cases h : -9223372036854775808 ≤ x ∧ x ≤ 9223372036854775807 <;> by_cases g : -9223372036854775808 ≤ y ∧ y ≤ 9223372036854775807 <;> simp [h, g]
theorem i2_vals (x y : Int) (hx : I64 x) (hy : I64 y) : i2 x y = (x, y, 0) := by
  unfold i2 enR; rw [okE_in x hx, okE_in y hy, okV_in x hx, okV_in y hy]; rfl
theorem i2_err (x y : Int) (h : ¬ (I64 x ∧ I64 y)) : i2 x y = (0, 0, 10) := by
  unfold i2 enR okE okV; unfold I64 at h
  by_cases k : -9223372036854775808 ≤ x ∧ x ≤ 9223372036854775807 <;> by_cases g : -9223372036854775808 ≤ y ∧ y ≤ 9223372036854775807 <;> simp [k, g]
  exact h ⟨k, g⟩
def adR (a b c d : Int) : Int × Int × Int := if a ≤ b ∧ c ≤ d then i2 (a + c) (b + d) else (0, 0, 30)
def suR (a b c d : Int) : Int × Int × Int := if a ≤ b ∧ c ≤ d then i2 (a - d) (b - c) else (0, 0, 30)
def tiR (a b k : Int) : Int × Int × Int := if a ≤ b then (if k < 0 then i2 (b * k) (a * k) else i2 (a * k) (b * k)) else (0, 0, 30)
theorem adR_ok (a b c d : Int) (h : vB a b = true) (g : vB c d = true) : adR a b c d = i2 (a + c) (b + d) := if_pos ⟨vB_yes h, vB_yes g⟩
theorem adR_f1 (a b c d : Int) (h : vB a b = false) : adR a b c d = (0, 0, 30) := if_neg fun k => vB_no h k.1
theorem adR_f2 (a b c d : Int) (h : vB c d = false) : adR a b c d = (0, 0, 30) := if_neg fun k => vB_no h k.2
theorem suR_ok (a b c d : Int) (h : vB a b = true) (g : vB c d = true) : suR a b c d = i2 (a - d) (b - c) := if_pos ⟨vB_yes h, vB_yes g⟩
theorem suR_f1 (a b c d : Int) (h : vB a b = false) : suR a b c d = (0, 0, 30) := if_neg fun k => vB_no h k.1
theorem suR_f2 (a b c d : Int) (h : vB c d = false) : suR a b c d = (0, 0, 30) := if_neg fun k => vB_no h k.2
theorem sadd_any (a b c d : Int) (w : World) (ha : I64 a) (hb : I64 b) (hc : I64 c) (hd : I64 d) :
    Calls Try.prog 21 #[.agg #[.int .i64 a, .int .i64 b], .agg #[.int .i64 c, .int .i64 d]] w fun e w' => e = .returned (.tuple #[.agg #[.int .i64 (adR a b c d).1, .int .i64 (adR a b c d).2.1], .int .i64 (adR a b c d).2.2]) ∧ Below w.heap.size w w' := by
  cases h1 : vB a b with
  | false =>
    rw [adR_f1 a b c d h1]
    go_enter Try.func21, Try.ntmps21
    go_wp2_with fail
    refine (svalid_any _ _ _).mono ?_
    rintro e w1 ⟨rfl, hb⟩
    have s1 := (St.start w).new.new.new.call hb
    simp only [World.size_alloc] at s1
    obtain ⟨c1, f1, z1, c2, f2, z2, c3, f3, z3, -⟩ := s1.rules
    clear hb
    go_wp2
    exact bodyPost_ret (v := .tuple #[.agg #[.int .i64 0, .int .i64 0], .int .i64 30]) (by simp [results, Try.results21, go_sem, c1]) rfl ⟨rfl, s1.out2⟩
  | true =>
    cases h2 : vB c d with
    | false =>
      rw [adR_f2 a b c d h2]
      go_enter Try.func21, Try.ntmps21
      go_wp2_with fail
      refine (svalid_any _ _ _).mono ?_
      rintro e w1 ⟨rfl, hb⟩
      have s1 := (St.start w).new.new.new.call hb
      simp only [World.size_alloc] at s1
      obtain ⟨c1, f1, z1, c2, f2, z2, c3, f3, z3, -⟩ := s1.rules
      clear hb
      go_wp2_with fail
      refine (svalid_any _ _ _).mono ?_
      rintro e w2 ⟨rfl, hb⟩
      have s2 := s1.call hb
      clear hb c1 f1 z1 c2 f2 z2 c3 f3 z3
      obtain ⟨c1, f1, z1, c2, f2, z2, c3, f3, z3, -⟩ := s2.rules
      go_wp2
      exact bodyPost_ret (v := .tuple #[.agg #[.int .i64 0, .int .i64 0], .int .i64 30]) (by simp [results, Try.results21, go_sem, c1]) rfl ⟨rfl, s2.out2⟩
    | true =>
      rw [adR_ok a b c d h1 h2]
      unfold i2
      go_enter Try.func21, Try.ntmps21
      go_wp2_with fail
      refine (svalid_any _ _ _).mono ?_
      rintro e w1 ⟨rfl, hb'⟩
      have s1 := (St.start w).new.new.new.call hb'
      simp only [World.size_alloc] at s1
      obtain ⟨c1, f1, z1, c2, f2, z2, c3, f3, z3, -⟩ := s1.rules
      clear hb'
      go_wp2_with fail
      refine (svalid_any _ _ _).mono ?_
      rintro e w2 ⟨rfl, hb'⟩
      have s2 := s1.call hb'
      clear hb' c1 f1 z1 c2 f2 z2 c3 f3 z3
      obtain ⟨c1, f1, z1, c2, f2, z2, c3, f3, z3, -⟩ := s2.rules
      go_wp2_with fail
      refine (add_any _ _ _ (by assumption) (by assumption)).mono ?_
      rintro e w' ⟨rfl, rfl⟩
      go_wp2_with fail
      refine (add_any _ _ _ (by assumption) (by assumption)).mono ?_
      rintro e w' ⟨rfl, rfl⟩
      go_wp2_with fail
      refine (sends_any _ _ _ _ _).mono ?_
      rintro e w3 ⟨rfl, hb'⟩
      have s3 := s2.call hb'
      clear hb' c1 f1 z1 c2 f2 z2 c3 f3 z3
      obtain ⟨c1, f1, z1, c2, f2, z2, c3, f3, z3, -⟩ := s3.rules
      go_wp2
      exact bodyPost_ret (v := .tuple #[.agg #[.int .i64 _, .int .i64 _], .int .i64 _]) (by simp [results, Try.results21, go_sem, c1]) rfl ⟨rfl, s3.out2⟩
theorem ssub_any (a b c d : Int) (w : World) (ha : I64 a) (hb : I64 b) (hc : I64 c) (hd : I64 d) :
    Calls Try.prog 23 #[.agg #[.int .i64 a, .int .i64 b], .agg #[.int .i64 c, .int .i64 d]] w fun e w' => e = .returned (.tuple #[.agg #[.int .i64 (suR a b c d).1, .int .i64 (suR a b c d).2.1], .int .i64 (suR a b c d).2.2]) ∧ Below w.heap.size w w' := by
  cases h1 : vB a b with
  | false =>
    rw [suR_f1 a b c d h1]
    go_enter Try.func23, Try.ntmps23
    go_wp2_with fail
    refine (svalid_any _ _ _).mono ?_
    rintro e w1 ⟨rfl, hb⟩
    have s1 := (St.start w).new.new.new.call hb
    simp only [World.size_alloc] at s1
    obtain ⟨c1, f1, z1, c2, f2, z2, c3, f3, z3, -⟩ := s1.rules
    clear hb
    go_wp2
    exact bodyPost_ret (v := .tuple #[.agg #[.int .i64 0, .int .i64 0], .int .i64 30]) (by simp [results, Try.results23, go_sem, c1]) rfl ⟨rfl, s1.out2⟩
  | true =>
    cases h2 : vB c d with
    | false =>
      rw [suR_f2 a b c d h2]
      go_enter Try.func23, Try.ntmps23
      go_wp2_with fail
      refine (svalid_any _ _ _).mono ?_
      rintro e w1 ⟨rfl, hb⟩
      have s1 := (St.start w).new.new.new.call hb
      simp only [World.size_alloc] at s1
      obtain ⟨c1, f1, z1, c2, f2, z2, c3, f3, z3, -⟩ := s1.rules
      clear hb
      go_wp2_with fail
      refine (svalid_any _ _ _).mono ?_
      rintro e w2 ⟨rfl, hb⟩
      have s2 := s1.call hb
      clear hb c1 f1 z1 c2 f2 z2 c3 f3 z3
      obtain ⟨c1, f1, z1, c2, f2, z2, c3, f3, z3, -⟩ := s2.rules
      go_wp2
      exact bodyPost_ret (v := .tuple #[.agg #[.int .i64 0, .int .i64 0], .int .i64 30]) (by simp [results, Try.results23, go_sem, c1]) rfl ⟨rfl, s2.out2⟩
    | true =>
      rw [suR_ok a b c d h1 h2]
      unfold i2
      go_enter Try.func23, Try.ntmps23
      go_wp2_with fail
      refine (svalid_any _ _ _).mono ?_
      rintro e w1 ⟨rfl, hb'⟩
      have s1 := (St.start w).new.new.new.call hb'
      simp only [World.size_alloc] at s1
      obtain ⟨c1, f1, z1, c2, f2, z2, c3, f3, z3, -⟩ := s1.rules
      clear hb'
      go_wp2_with fail
      refine (svalid_any _ _ _).mono ?_
      rintro e w2 ⟨rfl, hb'⟩
      have s2 := s1.call hb'
      clear hb' c1 f1 z1 c2 f2 z2 c3 f3 z3
      obtain ⟨c1, f1, z1, c2, f2, z2, c3, f3, z3, -⟩ := s2.rules
      go_wp2_with fail
      refine (sub_any _ _ _ (by assumption) (by assumption)).mono ?_
      rintro e w' ⟨rfl, rfl⟩
      go_wp2_with fail
      refine (sub_any _ _ _ (by assumption) (by assumption)).mono ?_
      rintro e w' ⟨rfl, rfl⟩
      go_wp2_with fail
      refine (sends_any _ _ _ _ _).mono ?_
      rintro e w3 ⟨rfl, hb'⟩
      have s3 := s2.call hb'
      clear hb' c1 f1 z1 c2 f2 z2 c3 f3 z3
      obtain ⟨c1, f1, z1, c2, f2, z2, c3, f3, z3, -⟩ := s3.rules
      go_wp2
      exact bodyPost_ret (v := .tuple #[.agg #[.int .i64 _, .int .i64 _], .int .i64 _]) (by simp [results, Try.results23, go_sem, c1]) rfl ⟨rfl, s3.out2⟩
theorem srefadd_any (a b c d : Int) (w : World) (ha : I64 a) (hb : I64 b) (hc : I64 c) (hd : I64 d) :
    Calls Try.prog 22 #[.agg #[.int .i64 a, .int .i64 b], .agg #[.int .i64 c, .int .i64 d]] w fun e w' => e = .returned (.tuple #[.agg #[.int .i64 (adR a b c d).1, .int .i64 (adR a b c d).2.1], .int .i64 (adR a b c d).2.2]) ∧ Below w.heap.size w w' := by
  cases h1 : vB a b with
  | false =>
    rw [adR_f1 a b c d h1]
    go_enter Try.func22, Try.ntmps22
    go_wp2_with fail
    refine (srefvalid_any _ _ _).mono ?_
    rintro e w1 ⟨rfl, hb⟩
    have s1 := (St.start w).new.new.new.call hb
    simp only [World.size_alloc] at s1
    obtain ⟨c1, f1, z1, c2, f2, z2, c3, f3, z3, -⟩ := s1.rules
    clear hb
    go_wp2
    exact bodyPost_ret (v := .tuple #[.agg #[.int .i64 0, .int .i64 0], .int .i64 30]) (by simp [results, Try.results22, go_sem, c1]) rfl ⟨rfl, s1.out2⟩
  | true =>
    cases h2 : vB c d with
    | false =>
      rw [adR_f2 a b c d h2]
      go_enter Try.func22, Try.ntmps22
      go_wp2_with fail
      refine (srefvalid_any _ _ _).mono ?_
      rintro e w1 ⟨rfl, hb⟩
      have s1 := (St.start w).new.new.new.call hb
      simp only [World.size_alloc] at s1
      obtain ⟨c1, f1, z1, c2, f2, z2, c3, f3, z3, -⟩ := s1.rules
      clear hb
      go_wp2_with fail
      refine (srefvalid_any _ _ _).mono ?_
      rintro e w2 ⟨rfl, hb⟩
      have s2 := s1.call hb
      clear hb c1 f1 z1 c2 f2 z2 c3 f3 z3
      obtain ⟨c1, f1, z1, c2, f2, z2, c3, f3, z3, -⟩ := s2.rules
      go_wp2
      exact bodyPost_ret (v := .tuple #[.agg #[.int .i64 0, .int .i64 0], .int .i64 30]) (by simp [results, Try.results22, go_sem, c1]) rfl ⟨rfl, s2.out2⟩
    | true =>
      rw [adR_ok a b c d h1 h2]
      unfold i2
      go_enter Try.func22, Try.ntmps22
      go_wp2_with fail
      refine (srefvalid_any _ _ _).mono ?_
      rintro e w1 ⟨rfl, hb'⟩
      have s1 := (St.start w).new.new.new.call hb'
      simp only [World.size_alloc] at s1
      obtain ⟨c1, f1, z1, c2, f2, z2, c3, f3, z3, -⟩ := s1.rules
      clear hb'
      go_wp2_with fail
      refine (srefvalid_any _ _ _).mono ?_
      rintro e w2 ⟨rfl, hb'⟩
      have s2 := s1.call hb'
      clear hb' c1 f1 z1 c2 f2 z2 c3 f3 z3
      obtain ⟨c1, f1, z1, c2, f2, z2, c3, f3, z3, -⟩ := s2.rules
      go_wp2_with fail
      refine (refadd_any _ _ _ (by assumption) (by assumption)).mono ?_
      rintro e w' ⟨rfl, rfl⟩
      go_wp2_with fail
      refine (refadd_any _ _ _ (by assumption) (by assumption)).mono ?_
      rintro e w' ⟨rfl, rfl⟩
      go_wp2_with fail
      refine (srefends_any _ _ _ _ _ (okE_two _) (okE_two _)).mono ?_
      rintro e w3 ⟨rfl, hb'⟩
      have s3 := s2.call hb'
      clear hb' c1 f1 z1 c2 f2 z2 c3 f3 z3
      obtain ⟨c1, f1, z1, c2, f2, z2, c3, f3, z3, -⟩ := s3.rules
      go_wp2
      exact bodyPost_ret (v := .tuple #[.agg #[.int .i64 _, .int .i64 _], .int .i64 _]) (by simp [results, Try.results22, go_sem, c1]) rfl ⟨rfl, s3.out2⟩
theorem srefsub_any (a b c d : Int) (w : World) (ha : I64 a) (hb : I64 b) (hc : I64 c) (hd : I64 d) :
    Calls Try.prog 24 #[.agg #[.int .i64 a, .int .i64 b], .agg #[.int .i64 c, .int .i64 d]] w fun e w' => e = .returned (.tuple #[.agg #[.int .i64 (suR a b c d).1, .int .i64 (suR a b c d).2.1], .int .i64 (suR a b c d).2.2]) ∧ Below w.heap.size w w' := by
  cases h1 : vB a b with
  | false =>
    rw [suR_f1 a b c d h1]
    go_enter Try.func24, Try.ntmps24
    go_wp2_with fail
    refine (srefvalid_any _ _ _).mono ?_
    rintro e w1 ⟨rfl, hb⟩
    have s1 := (St.start w).new.new.new.call hb
    simp only [World.size_alloc] at s1
    obtain ⟨c1, f1, z1, c2, f2, z2, c3, f3, z3, -⟩ := s1.rules
    clear hb
    go_wp2
    exact bodyPost_ret (v := .tuple #[.agg #[.int .i64 0, .int .i64 0], .int .i64 30]) (by simp [results, Try.results24, go_sem, c1]) rfl ⟨rfl, s1.out2⟩
  | true =>
    cases h2 : vB c d with
    | false =>
      rw [suR_f2 a b c d h2]
      go_enter Try.func24, Try.ntmps24
      go_wp2_with fail
      refine (srefvalid_any _ _ _).mono ?_
      rintro e w1 ⟨rfl, hb⟩
      have s1 := (St.start w).new.new.new.call hb
      simp only [World.size_alloc] at s1
      obtain ⟨c1, f1, z1, c2, f2, z2, c3, f3, z3, -⟩ := s1.rules
      clear hb
      go_wp2_with fail
      refine (srefvalid_any _ _ _).mono ?_
      rintro e w2 ⟨rfl, hb⟩
      have s2 := s1.call hb
      clear hb c1 f1 z1 c2 f2 z2 c3 f3 z3
      obtain ⟨c1, f1, z1, c2, f2, z2, c3, f3, z3, -⟩ := s2.rules
      go_wp2
      exact bodyPost_ret (v := .tuple #[.agg #[.int .i64 0, .int .i64 0], .int .i64 30]) (by simp [results, Try.results24, go_sem, c1]) rfl ⟨rfl, s2.out2⟩
    | true =>
      rw [suR_ok a b c d h1 h2]
      unfold i2
      go_enter Try.func24, Try.ntmps24
      go_wp2_with fail
      refine (srefvalid_any _ _ _).mono ?_
      rintro e w1 ⟨rfl, hb'⟩
      have s1 := (St.start w).new.new.new.call hb'
      simp only [World.size_alloc] at s1
      obtain ⟨c1, f1, z1, c2, f2, z2, c3, f3, z3, -⟩ := s1.rules
      clear hb'
      go_wp2_with fail
      refine (srefvalid_any _ _ _).mono ?_
      rintro e w2 ⟨rfl, hb'⟩
      have s2 := s1.call hb'
      clear hb' c1 f1 z1 c2 f2 z2 c3 f3 z3
      obtain ⟨c1, f1, z1, c2, f2, z2, c3, f3, z3, -⟩ := s2.rules
      go_wp2_with fail
      refine (refsub_any _ _ _ (by assumption) (by assumption)).mono ?_
      rintro e w' ⟨rfl, rfl⟩
      go_wp2_with fail
      refine (refsub_any _ _ _ (by assumption) (by assumption)).mono ?_
      rintro e w' ⟨rfl, rfl⟩
      go_wp2_with fail
      refine (srefends_any _ _ _ _ _ (okE_two _) (okE_two _)).mono ?_
      rintro e w3 ⟨rfl, hb'⟩
      have s3 := s2.call hb'
      clear hb' c1 f1 z1 c2 f2 z2 c3 f3 z3
      obtain ⟨c1, f1, z1, c2, f2, z2, c3, f3, z3, -⟩ := s3.rules
      go_wp2
      exact bodyPost_ret (v := .tuple #[.agg #[.int .i64 _, .int .i64 _], .int .i64 _]) (by simp [results, Try.results24, go_sem, c1]) rfl ⟨rfl, s3.out2⟩
end Go.Proofs.Ytdpfnlefaegmeaa
